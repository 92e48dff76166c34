package audit_test

import (
	"math/rand"
	"reflect"
	"slices"
	"testing"

	"pursebearer/api"
	"pursebearer/audit"
	"pursebearer/ctx"
	"pursebearer/fix"
	"pursebearer/graph"
	"pursebearer/lease"
	"pursebearer/mesh"
	"pursebearer/script"
	"pursebearer/snap"
)

// randomConf is a configuration of services, each of which calls later ones alone (unless they may be in a circle).
func randomConf(r *rand.Rand, odd, circle bool) api.Conf {
	n := 2 + r.Intn(3)
	c := api.Conf{
		Watch: api.Watch{Errors: 1 + r.Intn(4), Window: 20 + r.Intn(100), Dev: r.Intn(2) * 15, Share: r.Intn(101), Base: 5 + r.Intn(20), Top: 60},
		Panic: r.Intn(101), Low: 5 + r.Intn(4), High: 10 + r.Intn(10), Wait: 10 + r.Intn(10), Hop: 1 + r.Intn(3), Life: 150 + r.Intn(150), Purse: r.Intn(12), Horizon: 400, Sample: r.Intn(101),
	}
	c.Rates = []api.Rate{{Limit: 1 + r.Intn(9), Window: 10 + r.Intn(40), Slice: 1}}
	for i := range n {
		s := api.Service{ID: i + 1, Work: 1 + r.Intn(5), Slots: 1 + r.Intn(5), Queue: 10 + r.Intn(20), Balance: api.ByTwo + r.Intn(3), Warm: r.Intn(5)}
		for range r.Intn(3) {
			first := i + 1
			if circle {
				first = 0
			}
			if first < n {
				s.Kids = append(s.Kids, path(first+r.Intn(n-first)))
			}
		}
		c.Services = append(c.Services, s)
		x := api.Rule{
			M: api.Match{Path: path(i)}, Parts: []api.Part{{Service: i + 1, Weight: 1}},
			P: api.Policy{Timeout: 100 + r.Intn(100), Tries: 1 + r.Intn(4), Back: r.Intn(8), Budget: api.Budget{Per: 1, Of: 1 + r.Intn(4), Burst: r.Intn(9)}},
		}
		if odd {
			x.Rate, x.Mirror, x.P.Hedge, x.P.Timeout = r.Intn(2), r.Intn(n+1), r.Intn(12), 5+r.Intn(40)
			x.Inject = api.Inject{Abort: r.Intn(2) * 9, Delay: r.Intn(2) * 4, Ticks: r.Intn(9)}
			c.Watch.Slow = r.Intn(2) * 20
		}
		c.Rules = append(c.Rules, x)
	}
	for id := 1; id <= n+r.Intn(4); id++ {
		c.Ends = append(c.Ends, api.End{ID: id, Service: 1 + (id-1)%n, Zone: 1 + r.Intn(2)})
	}
	return c
}

func path(i int) string { return "/" + string(rune('a'+i)) }

func randomFault(r *rand.Rand, ends int) api.Line {
	from := r.Intn(300)
	f := api.Fault{Kind: api.Lose + r.Intn(10), From: from, To: from + 1 + r.Intn(120)}
	node := func() int {
		return []int{0, 1 + r.Intn(4), 101 + r.Intn(ends), 101 + r.Intn(ends), 200, 202}[r.Intn(6)]
	}
	f.A, f.N = 101+r.Intn(ends), 0
	switch f.Kind {
	case api.Lose, api.Double, api.Slow, api.Cut:
		f.A = node()
		if f.B = node(); f.B == f.A {
			f.B = -1
		}
		if f.Kind != api.Cut {
			f.N = 1 + r.Intn(4)
		}
	case api.Sick, api.Lazy:
		f.N = 1 + r.Intn(4)
	case api.Forget:
		f.A = 201
	}
	return api.Line{Do: api.DoFault, F: f}
}

func randomScript(r *rand.Rand, c api.Conf, faults int) []api.Line {
	var l []api.Line
	for range faults {
		l = append(l, randomFault(r, len(c.Ends)))
	}
	for id := range 1 + r.Intn(25) {
		l = append(l, api.Line{Do: api.DoAsk, R: api.Request{
			ID: id + 1, At: r.Intn(300), Path: path(r.Intn(len(c.Services))), Prio: r.Intn(4), Idem: r.Intn(4) == 0, Life: 50 + r.Intn(300), Purse: r.Intn(20),
		}})
	}
	return l
}

func run(t *testing.T, c api.Conf, l []api.Line, seed uint64, to int) *mesh.Mesh {
	t.Helper()
	if i, e := script.Check(l); e != api.OK {
		t.Fatal("script", i, e, l[i])
	}
	m, e := mesh.New(c, l, seed, []uint64{3, 1 << 63})
	if e != api.OK {
		t.Fatal("configuration", e)
	}
	m.Run(to)
	return m
}

func names(l []api.Event, kind int, req int) []string {
	var out []string
	for _, e := range l {
		if e.Kind == kind && e.C.Req == req {
			out = append(out, ctx.Span(e.C))
		}
	}
	return out
}

// hold tells what of the promises does not hold for a run whose requests are all over.
func hold(t *testing.T, c api.Conf, l []api.Line, m *mesh.Mesh) {
	t.Helper()
	events := m.Events()
	for _, s := range c.Services {
		if n, fresh := audit.Reached(events, s.ID); n > fix.Part(graph.Factor(c, s.ID), fresh, 1) {
			t.Error("T1", s.ID, n, fresh)
		}
	}
	if got := audit.Twice(events, c.Horizon); len(got) > 0 {
		t.Error("T3", got)
	}
	if got := audit.Late(events); len(got) > 0 {
		t.Error("T4", got)
	}
	if got := audit.Torn(events); len(got) > 0 {
		t.Error("T5", got)
	}
	for _, x := range l {
		if x.Do != api.DoAsk {
			continue
		}
		req, purse := x.R.ID, min(x.R.Purse, c.Purse)
		further := 0
		for _, e := range events {
			if e.Kind == api.EvSend && e.C.Req == req && e.C.Try > 1 {
				further++
			}
		}
		if held, spent := m.Purse(req); held+spent != purse || spent != further {
			t.Error("T2", req, held, spent, further, purse)
		}
		if _, at, ok := m.Answer(req); !ok || at > x.R.At+min(x.R.Life, c.Life) || len(names(events, api.EvAnswer, req)) != 1 {
			t.Error("T4", req, at, ok)
		}
		var lost []string
		came := names(events, api.EvSpan, req)
		for _, s := range m.Log().Spans(req) {
			if !slices.Contains(came, s.Name) {
				lost = append(lost, s.Name)
			}
		}
		if !audit.True(m.Collector().Tree(req), m.Log(), lost) {
			t.Error("T7", req)
		}
	}
}

// rated tells whether rates admitted what they may, and have to.
func rated(t *testing.T, c api.Conf, l []api.Line, events []api.Event) {
	t.Helper()
	r := c.Rates[0]
	for from := 0; from < 800; from += r.Window {
		asked, forgot := 0, false
		for _, e := range events {
			if e.Kind == api.EvRoute && e.At >= from && e.At < from+r.Window && c.Rules[e.N].Rate == 1 {
				asked++
			}
		}
		for _, x := range l {
			forgot = forgot || x.Do == api.DoFault && x.F.Kind == api.Forget && x.F.From < from+r.Window && x.F.To > from
		}
		for _, x := range c.Rules {
			forgot = forgot || x.Inject.Abort > 0 // what is aborted does not ask
		}
		n := audit.Admitted(events, 1, from, from+r.Window)
		if n > r.Limit || n < lease.Exact(r, asked)-lease.Error(r, 11, forgot) {
			t.Error("T6", from, n, asked)
		}
	}
}

// met tells whether what reached an endpoint was sent, and its work began, and took effect, in this row.
func met(t *testing.T, events []api.Event) {
	t.Helper()
	seen := map[string]int{} // the greatest kind's place of each name
	for _, e := range events {
		place := slices.Index([]int{api.EvSend, api.EvReach, api.EvStart, api.EvEffect}, e.Kind)
		if place < 0 {
			continue
		}
		name := ctx.Span(e.C)
		if place > 0 && seen[name] < place {
			t.Fatal("P34.6", name, e)
		}
		seen[name] = max(seen[name], place+1)
	}
}

func TestAnyFaults(t *testing.T) {
	r := rand.New(rand.NewSource(1))
	for i := range 150 {
		c := randomConf(r, true, i%3 == 0)
		l := randomScript(r, c, r.Intn(15))
		if snap.Check(c) != api.OK {
			t.Fatal(snap.Check(c))
		}
		m := run(t, c, l, uint64(i), 800)
		hold(t, c, l, m)
		rated(t, c, l, m.Events())
		met(t, m.Events())
		again := run(t, c, l, uint64(i), 800)
		if !reflect.DeepEqual(m.Events(), again.Events()) {
			t.Error("T9")
		}
		for _, x := range l {
			s, _ := script.Print(x)
			if back, e := script.Parse(s); e != api.OK || !reflect.DeepEqual(back, x) {
				t.Error("T9", s)
			}
		}
		if t.Failed() {
			t.Fatalf("%d: %s\n%+v", i, script.PrintConf(c), l)
		}
	}
}

func TestPublished(t *testing.T) {
	r := rand.New(rand.NewSource(2))
	for i := range 60 {
		c := randomConf(r, true, true)
		l := randomScript(r, c, r.Intn(10))
		for range 1 + r.Intn(5) {
			next := c
			next.Purse, next.Horizon = c.Purse, c.Horizon
			next.Low = r.Intn(9) // 0 may not be
			next.Services = slices.Clone(c.Services)
			next.Services[len(c.Services)-1].Work = 1 + r.Intn(9)
			next.Ends = slices.Clone(c.Ends)
			next.Ends = append(next.Ends, api.End{ID: 20 + r.Intn(3), Service: 1 + r.Intn(2), Zone: 1})
			l = append(l, api.Line{Do: api.DoPublish, At: r.Intn(400), C: next})
		}
		l = append(l, api.Line{Do: api.DoRotate, At: r.Intn(400)})
		m := run(t, c, l, uint64(i), 800)
		events := m.Events()
		if len(audit.Torn(events))+len(audit.Late(events))+len(audit.Twice(events, c.Horizon)) > 0 {
			t.Error("T3, T4, T5", audit.Torn(events), audit.Late(events))
		}
		for _, x := range l {
			if _, at, ok := m.Answer(x.R.ID); x.Do == api.DoAsk && (!ok || at > x.R.At+min(x.R.Life, c.Life)) {
				t.Error("T4", x.R.ID)
			}
		}
		met(t, events)
	}
}

func TestCalm(t *testing.T) {
	r := rand.New(rand.NewSource(3))
	alone := 0
	for i := range 120 {
		c := randomConf(r, false, false)
		l := randomScript(r, c, r.Intn(20))
		from := script.Quiet(l) + audit.Calm(c)
		at := from
		for id := 100; id < 110; id++ {
			p := path(r.Intn(len(c.Services)))
			took, ok := graph.Alone(c, p)
			if !ok {
				continue
			}
			alone++
			l = append(l, api.Line{Do: api.DoAsk, R: api.Request{ID: id, At: at, Path: p, Life: 10000, Purse: 3}})
			at += took + 1
		}
		m := run(t, c, l, uint64(i), from)
		if m.Queues() != 0 || m.Alive() != 0 {
			t.Error("T8", m.Queues(), m.Alive())
		}
		for n := range 11 {
			for _, s := range c.Services {
				all := 0
				for _, e := range c.Ends {
					if e.Service == s.ID {
						all++
					}
				}
				if len(m.Well(n, s.ID)) != all {
					t.Error("T8", n, s.ID, m.Well(n, s.ID))
				}
			}
		}
		m.Run(at + 500)
		if well, all := audit.Good(m.Events(), from); well != all {
			t.Error("T8", well, all)
		}
		hold(t, c, l, m)
		if t.Failed() {
			t.Fatalf("%d: %s\n%+v", i, script.PrintConf(c), l)
		}
	}
	if alone < 100 {
		t.Error("few", alone)
	}
}
