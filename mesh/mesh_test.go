package mesh

import (
	"math"
	"slices"
	"testing"

	"pursebearer/api"
	"pursebearer/ctx"
	"pursebearer/snap"
)

func rule(path string, service int) api.Rule {
	return api.Rule{
		M:     api.Match{Path: path, Exact: true},
		Parts: []api.Part{{Service: service, Weight: 1}},
		P:     api.Policy{Timeout: 40, Tries: 3, Back: 2, Budget: api.Budget{Per: 1, Of: 1, Burst: 10}},
	}
}

// two is the configuration of the ten examples.
func two() api.Conf {
	return api.Conf{
		Services: []api.Service{{ID: 1, Kids: []string{"/b", "/b"}, Work: 3, Slots: 4, Queue: 9, Balance: api.ByTwo}, {ID: 2, Work: 4, Slots: 4, Queue: 9, Balance: api.ByTwo}},
		Ends:     []api.End{{ID: 1, Service: 1, Zone: 1}, {ID: 2, Service: 2, Zone: 1}},
		Rules:    []api.Rule{rule("/", 1), rule("/b", 2)},
		Watch:    api.Watch{Errors: 5, Window: 100, Share: 50, Base: 10, Top: 50},
		Low:      10, High: 20, Wait: 9, Hop: 2, Life: 200, Purse: 8, Horizon: 400, Sample: 100,
	}
}

func ask(id, at int) api.Line {
	return api.Line{Do: api.DoAsk, R: api.Request{ID: id, At: at, Path: "/", Life: 200, Purse: 8, Prio: 1}}
}

func fault(kind, from, to, a, b, n int) api.Line {
	return api.Line{Do: api.DoFault, F: api.Fault{Kind: kind, From: from, To: to, A: a, B: b, N: n}}
}

func made(t *testing.T, c api.Conf, l ...api.Line) *Mesh {
	t.Helper()
	m, e := New(c, l, 7, nil)
	if e != api.OK {
		t.Fatal(e)
	}
	return m
}

// at are the ticks at which events of a kind happened to a name.
func at(m *Mesh, kind int, name string) []int {
	var l []int
	for _, e := range m.Events() {
		if e.Kind == kind && ctx.Span(e.C) == name {
			l = append(l, e.At)
		}
	}
	return l
}

func count(m *Mesh, kind int) int {
	n := 0
	for _, e := range m.Events() {
		if e.Kind == kind {
			n++
		}
	}
	return n
}

func wantAt(t *testing.T, m *Mesh, kind int, name string, ticks ...int) {
	t.Helper()
	if got := at(m, kind, name); !slices.Equal(got, ticks) {
		t.Errorf("kind %d of %s: %v, want %v", kind, name, got, ticks)
	}
}

func wantAnswer(t *testing.T, m *Mesh, req int, e api.Errno, tick int) {
	t.Helper()
	if got, at, ok := m.Answer(req); got != e || at != tick || !ok {
		t.Errorf("answer %d: %v at %d", req, got, at)
	}
	if l := at(m, api.EvAnswer, "1"); req == 1 && !slices.Equal(l, []int{tick}) {
		t.Error("answers", l)
	}
}

func TestNothingFails(t *testing.T) {
	m := made(t, two(), ask(1, 5))
	if m.Now() != 0 || !m.Step() || m.Now() != 1 {
		t.Error("step")
	}
	m.Run(8)
	if m.Alive() != 2 || m.Queues() != 0 { // the call, and the attempt that is worked at
		t.Error("alive", m.Alive())
	}
	m.Run(11)
	if m.Alive() != 4 { // the call, the job, and its two calls
		t.Error("alive", m.Alive())
	}
	if _, _, ok := m.Answer(1); ok {
		t.Error("early")
	}
	m.Run(30)
	wantAt(t, m, api.EvAsk, "1", 5)
	wantAt(t, m, api.EvSend, "1:1", 5)
	wantAt(t, m, api.EvReach, "1:1", 7)
	wantAt(t, m, api.EvStart, "1:1", 7)
	wantAt(t, m, api.EvEffect, "1:1", 10)
	for _, name := range []string{"1:1/0:1", "1:1/1:1"} {
		wantAt(t, m, api.EvSend, name, 10)
		wantAt(t, m, api.EvReach, name, 12)
		wantAt(t, m, api.EvEffect, name, 16)
		wantAt(t, m, api.EvSpan, name, 18)
	}
	wantAt(t, m, api.EvSpan, "1:1", 20)
	wantAnswer(t, m, 1, api.OK, 20)
	if m.Alive()+m.Queues() != 0 || m.Now() != 30 {
		t.Error("alive")
	}
	if held, spent := m.Purse(1); held != 8 || spent != 0 {
		t.Error(held, spent)
	}
	spans := m.Log().Spans(1)
	if !slices.Equal(spans, []api.Span{{Name: "1:1", Service: 1, From: 7}, {Name: "1:1/0:1", Service: 2, From: 12}, {Name: "1:1/1:1", Service: 2, From: 12}}) {
		t.Error(spans)
	}
	tree := m.Collector().Tree(1)
	if len(tree) != 3 || tree[0].S != (api.Span{Name: "1:1", Service: 1, From: 7, To: 18, Well: true, Kids: 2}) {
		t.Error(tree)
	}
}

func TestEvents(t *testing.T) {
	m := made(t, two(), ask(1, 5))
	m.Run(30)
	root := api.Ctx{Req: 1, Call: "1", Deadline: 205, Purse: 8, Version: 1, Prio: 1}
	try := ctx.Try(root, 1, 4)
	kid := ctx.Kid(try, 1, 2, 2)
	for _, want := range []api.Event{
		{Kind: api.EvAsk, At: 5, C: root},
		{Kind: api.EvRoute, At: 5, C: root, Service: 1, N: 0, Key: "1"},
		{Kind: api.EvSend, At: 5, C: try},
		{Kind: api.EvReach, At: 7, C: try, Node: 101, Service: 1},
		{Kind: api.EvStart, At: 7, C: try, Node: 101, Service: 1},
		{Kind: api.EvEffect, At: 10, C: try, Node: 101, Service: 1, Key: "1"},
		{Kind: api.EvRoute, At: 10, C: kid, Node: 1, Service: 2, N: 1, Key: "1/1"},
		{Kind: api.EvSend, At: 10, C: ctx.Try(kid, 1, 1), Node: 1},
		{Kind: api.EvEffect, At: 16, C: ctx.Try(kid, 1, 1), Node: 102, Service: 2, Key: "1/1"},
		{Kind: api.EvSpan, At: 18, C: ctx.Try(kid, 1, 1), Node: 102},
		{Kind: api.EvAnswer, At: 20, C: root},
	} {
		if !slices.Contains(m.Events(), want) {
			t.Errorf("lacking: %+v", want)
		}
	}
	l := m.Events()
	l[0].Kind = 99
	if m.Events()[0].Kind == 99 || len(l) != 2+3*6 { // of each call and its attempt: route, send, reach, start, effect, span
		t.Error("events", len(l))
	}
}

func TestCut(t *testing.T) {
	m := made(t, two(), fault(api.Cut, 0, 8, 0, 101, 0), ask(1, 5))
	m.Run(100)
	wantAt(t, m, api.EvReach, "1:1")
	wantAt(t, m, api.EvSend, "1:2", 47)
	wantAnswer(t, m, 1, api.OK, 62)
	if held, spent := m.Purse(1); held != 7 || spent != 1 {
		t.Error(held, spent)
	}
}

func TestAllCut(t *testing.T) {
	x := ask(1, 5)
	x.R.Life = 60
	m := made(t, two(), x, fault(api.Cut, 0, 999, 0, -1, 0))
	m.Run(100)
	wantAnswer(t, m, 1, api.ErrLate, 65)
	if count(m, api.EvReach) != 0 {
		t.Error("reached")
	}
}

// TestGreatest: a request may ask for as much as an int tells, and a configuration that is published may say anything.
func TestGreatest(t *testing.T) {
	x := ask(1, 5)
	x.R.Life, x.R.Purse = math.MaxInt, math.MaxInt
	c, odd := two(), two()
	c.Rules[0].P.Timeout = 400
	odd.Ends = append(odd.Ends, api.End{ID: math.MaxInt, Service: math.MaxInt, Zone: math.MinInt}, api.End{ID: math.MinInt})
	m := made(t, c, api.Line{Do: api.DoPublish, At: 1, C: odd}, x, fault(api.Cut, 0, api.MaxTime, 0, -1, 0))
	m.Run(300)
	wantAnswer(t, m, 1, api.ErrLate, 205)
	if held, spent := m.Purse(1); held+spent != 8 || m.plane.Live() != 1 {
		t.Error(held, spent, m.plane.Live())
	}
}

func TestAnswersCut(t *testing.T) {
	lines := []api.Line{fault(api.Cut, 9, 30, 101, 0, 0), ask(1, 5)}
	m := made(t, two(), lines...)
	m.Run(100)
	if count(m, api.EvReach) != 6 || count(m, api.EvEffect) != 3 {
		t.Error(count(m, api.EvReach), count(m, api.EvEffect))
	}
	keys := map[string]int{}
	for _, e := range m.Events() {
		if e.Kind == api.EvEffect {
			keys[e.Key]++
		}
	}
	if len(keys) != 3 || keys["1"] != 1 || keys["1/0"] != 1 || keys["1/1"] != 1 {
		t.Error(keys)
	}
	lines[1].R.Idem = true
	m = made(t, two(), lines...)
	m.Run(100)
	if count(m, api.EvReach) != 6 || count(m, api.EvEffect) != 6 {
		t.Error(count(m, api.EvReach), count(m, api.EvEffect))
	}
}

func TestDouble(t *testing.T) {
	m := made(t, two(), fault(api.Double, 0, 99, 0, 101, 1), ask(1, 5))
	m.Run(100)
	wantAnswer(t, m, 1, api.OK, 20)
	if count(m, api.EvReach) != 3 {
		t.Error(count(m, api.EvReach))
	}
}

func TestCrash(t *testing.T) {
	m := made(t, two(), fault(api.Crash, 8, 20, 101, 0, 0), ask(1, 5))
	m.Run(9)
	if m.Alive() != 1 {
		t.Error("alive")
	}
	m.Run(100)
	wantAt(t, m, api.EvEffect, "1:1")
	wantAt(t, m, api.EvSend, "1:2", 47)
	wantAnswer(t, m, 1, api.OK, 62)
	// A crash while its calls are under way: they go on, and it is not answered.
	m = made(t, two(), fault(api.Crash, 14, 20, 101, 0, 0), ask(1, 5))
	m.Run(100)
	wantAt(t, m, api.EvEffect, "1:1/0:1", 16)
	wantAt(t, m, api.EvSpan, "1:1")
	wantAt(t, m, api.EvReach, "1:2", 49)
	wantAt(t, m, api.EvEffect, "1:2")
	wantAt(t, m, api.EvEffect, "1:2/0:1")
	wantAnswer(t, m, 1, api.OK, 62)
	tree := m.Collector().Tree(1)
	if m.Collector().Whole(1) || !tree[0].Missing || tree[0].Name != "1:1" {
		t.Error(tree)
	}
}

func TestPause(t *testing.T) {
	m := made(t, two(), fault(api.Pause, 8, 20, 102, 0, 0), ask(1, 5))
	m.Run(100)
	wantAt(t, m, api.EvReach, "1:1/0:1", 12)
	wantAt(t, m, api.EvStart, "1:1/0:1", 20)
	wantAnswer(t, m, 1, api.OK, 28)
}

func TestUntrusted(t *testing.T) {
	m := made(t, two(), fault(api.Untrusted, 0, 20, 101, 0, 0), ask(1, 5), ask(2, 30))
	m.Run(100)
	if len(at(m, api.EvSend, "1:1"))+len(at(m, api.EvSend, "1:3")) != 0 {
		t.Error("sent")
	}
	wantAnswer(t, m, 1, api.ErrRevoke, 11)
	wantAnswer(t, m, 2, api.OK, 45)
}

func TestRotate(t *testing.T) {
	m := made(t, two(), api.Line{Do: api.DoRotate, At: 10}, ask(1, 9), ask(2, 10), ask(3, 200))
	m.Run(300)
	for _, req := range []int{1, 2, 3} {
		if e, _, ok := m.Answer(req); e != api.OK || !ok {
			t.Error(req, e)
		}
	}
	if got := m.authority.Roots(110); !slices.Equal(got, []int{2}) || !slices.Equal(m.authority.Roots(109), []int{1, 2}) {
		t.Error(got)
	}
}

func TestPublish(t *testing.T) {
	next := two()
	next.Ends = append(next.Ends, api.End{ID: 3, Service: 1, Zone: 2})
	bad := two()
	bad.Low = 0
	other := two()
	other.Ends[1].Service = 1
	m := made(t, two(), ask(1, 12), ask(2, 70),
		api.Line{Do: api.DoPublish, At: 11, C: next}, api.Line{Do: api.DoPublish, At: 50, C: bad}, api.Line{Do: api.DoPublish, At: 50, C: other})
	m.Run(13)
	if m.proxies[4].Has(2) || m.plane.Live() != 1 {
		t.Error("early")
	}
	m.Run(14)
	if !m.proxies[4].Has(2) || m.plane.Live() != 1 {
		t.Error("13")
	}
	m.Run(15)
	if m.plane.Live() != 1 {
		t.Error("14")
	}
	m.Run(16)
	if m.plane.Live() != 2 || !m.proxies[4].Has(1) { // 1 is pinned by the request 1
		t.Error("15")
	}
	m.Run(30)
	if e := m.end(103); e == nil || e.cert.From != 11 || m.end(101).cert.From != 0 {
		t.Error("endpoints")
	}
	if m.proxies[4].Has(1) || len(m.Well(0, 1)) != 2 || len(m.Well(99, 1)) != 0 || len(m.Well(11, 1)) != 0 || len(m.Well(-1, 1)) != 0 {
		t.Error("dropped")
	}
	m.Run(100)
	versions := map[int]int{}
	for _, e := range m.Events() {
		if e.Kind == api.EvRoute {
			versions[e.C.Req] = e.C.Version
		}
	}
	if versions[1] != 1 || versions[2] != 2 || m.plane.Live() != 2 {
		t.Error(versions)
	}
}

func TestPublishedLow(t *testing.T) {
	bad := two()
	bad.Low = 0
	m := made(t, two(), api.Line{Do: api.DoPublish, At: 50, C: bad})
	n := count(m, api.EvAsk)
	m.Run(100)
	if _, ok := m.plane.Snap(2); ok || len(m.Events()) != n {
		t.Error("nobody hears of it")
	}
	if _, e := New(bad, nil, 0, nil); e != snap.Check(bad) {
		t.Error("new", e)
	}
}

func TestResent(t *testing.T) {
	m := made(t, two(), fault(api.Cut, 0, 30, 200, 3, 0), api.Line{Do: api.DoPublish, At: 5, C: two()})
	m.Run(47)
	if m.proxies[3].Has(2) || !m.proxies[4].Has(2) {
		t.Error("cut at 5 and 25")
	}
	m.Run(48)
	if !m.proxies[3].Has(2) || m.plane.Live() != 1 {
		t.Error("sent at 45")
	}
	m.Run(50)
	if m.plane.Live() != 2 {
		t.Error("live")
	}
}

func TestEndpoints(t *testing.T) {
	c := two()
	c.Ends = []api.End{{ID: 4, Service: 1, Zone: 2}, {ID: 3, Service: 2, Zone: 2}, {ID: 9, Service: 2, Zone: 1}, {ID: 2, Service: 1, Zone: 1}}
	var l []api.Line
	for id := 1; id < 9; id++ {
		l = append(l, ask(id, 3*id))
	}
	m := made(t, c, l...)
	for i, id := range []int{2, 3, 4, 9} {
		if m.ends[i].id != id || m.ends[i].cert.Serial != i+1 {
			t.Error("not made by rising IDs", id)
		}
	}
	m.Run(99)
	for _, e := range m.Events() {
		if e.Kind == api.EvReach && e.Node != 102 && e.Node != 109 { // all stays in zone 1
			t.Error(e)
		}
	}
}

func TestNacked(t *testing.T) {
	// The version 2 comes to the proxy 3 behind the version 3: it is refused there, and never live.
	m := made(t, two(), fault(api.Slow, 5, 6, 200, 3, 20), api.Line{Do: api.DoPublish, At: 5, C: two()}, api.Line{Do: api.DoPublish, At: 10, C: two()})
	m.Run(40)
	if m.proxies[3].Has(2) || !m.proxies[3].Has(3) || m.plane.Live() != 3 || m.plane.Ack(3, 2) != api.ErrTwice {
		t.Error(m.plane.Live())
	}
	if s, ok := m.plane.Snap(2); s != nil || ok || len(m.sent) != 11 {
		t.Error("dropped", len(m.sent))
	}
}

func TestRates(t *testing.T) {
	c := two()
	c.Rates = []api.Rate{{Limit: 2, Window: 50, Slice: 1}}
	c.Rules[1].Rate = 1
	m := made(t, c, ask(1, 1), ask(2, 3), ask(3, 51), fault(api.Forget, 90, 120, 201, 0, 0), ask(4, 110), ask(5, 148))
	m.Run(300)
	wantAnswer(t, m, 1, api.OK, 16)
	wantAnswer(t, m, 2, api.ErrFail, 30)
	wantAnswer(t, m, 4, api.OK, 134)
	var got [][3]int
	for _, e := range m.Events() {
		if e.Kind == api.EvAdmit {
			got = append(got, [3]int{e.C.Req, e.At, e.N})
		}
	}
	if !slices.Equal(got, [][3]int{{1, 6, 1}, {1, 6, 1}, {3, 56, 1}, {3, 56, 1}, {4, 124, 1}, {4, 124, 1}, {5, 153, 1}, {5, 153, 1}}) {
		t.Error(got)
	}
}

func TestSickAndLazy(t *testing.T) {
	m := made(t, two(), fault(api.Sick, 0, 99, 102, 0, 2), fault(api.Lazy, 0, 9, 101, 0, 5), ask(1, 5))
	m.Run(120)
	wantAt(t, m, api.EvEffect, "1:1", 22)
	wantAt(t, m, api.EvEffect, "1:1/0:1", 28)
	wantAt(t, m, api.EvStart, "1:1/1:1", 24)
	wantAt(t, m, api.EvEffect, "1:1/1:1")
	wantAt(t, m, api.EvSend, "1:1/1:2", 32) // answered at 30, and 2 behind
	wantAt(t, m, api.EvEffect, "1:1/1:2", 38)
	wantAnswer(t, m, 1, api.OK, 42)
	if held, spent := m.Purse(1); held != 7 || spent != 1 {
		t.Error(held, spent)
	}
}

func TestFull(t *testing.T) {
	c := two()
	c.Services[0].Queue, c.Services[0].Slots, c.Services[0].Kids = 1, 1, nil
	m := made(t, c, fault(api.Pause, 0, 20, 101, 0, 0), ask(1, 5), ask(2, 5))
	m.Run(8)
	if m.Queues() != 1 {
		t.Error("queues", m.Queues())
	}
	m.Run(120)
	wantAt(t, m, api.EvReach, "2:1", 7)
	wantAt(t, m, api.EvStart, "2:1")
	wantAt(t, m, api.EvSpan, "2:1")
	wantAt(t, m, api.EvSend, "2:2", 19) // answered at 9, and 10 behind
	wantAnswer(t, m, 1, api.OK, 25)
}

func TestLost(t *testing.T) {
	c := two()
	c.Sample = 0
	m := made(t, c, ask(1, 5))
	m.Run(50)
	if count(m, api.EvSpan)+count(m, api.EvLost) != 0 {
		t.Error("not kept")
	}
	m = made(t, two(), fault(api.Cut, 0, 17, 102, 202, 0), ask(1, 5))
	m.Run(50)
	wantAt(t, m, api.EvLost, "1:1/0:1", 16)
	wantAt(t, m, api.EvSpan, "1:1", 20)
	for _, e := range m.Events() {
		if e.Kind == api.EvLost && (e.Node != 102 || e.Service != 0) {
			t.Error(e)
		}
	}
	if !m.Collector().Whole(1) || len(m.Collector().Tree(1)) != 1 {
		t.Error("tree")
	}
}

func TestCopies(t *testing.T) {
	c := two()
	c.Rules[0].Mirror = 1
	c.Sample = 100
	m := made(t, c, ask(1, 5))
	m.Run(50)
	wantAt(t, m, api.EvSend, "1~:1", 5)
	wantAt(t, m, api.EvReach, "1~:1", 7)
	wantAt(t, m, api.EvEffect, "1~:1")
	wantAt(t, m, api.EvSpan, "1~:1", 12)
	wantAt(t, m, api.EvSend, "1~:1/0:1")
	wantAnswer(t, m, 1, api.OK, 20)
	if held, spent := m.Purse(1); held != 8 || spent != 0 || m.Alive() != 0 {
		t.Error(held, spent)
	}
}

func TestShedAndEjected(t *testing.T) {
	c := two()
	c.Services[0].Kids = nil
	c.Low, c.High, c.Wait = 1, 1, 0
	c.Rules[0].P.Tries = 1
	c.Watch.Errors, c.Watch.Share = 1, 100
	m := made(t, c, ask(1, 5), ask(2, 6), fault(api.Sick, 0, 20, 101, 0, 1))
	m.Run(60)
	wantAt(t, m, api.EvShed, "2:1", 6)
	wantAnswer(t, m, 2, api.ErrShed, 6)
	wantAnswer(t, m, 1, api.ErrFail, 12)
	for _, want := range []api.Event{{Kind: api.EvEject, At: 12, Node: 101, Service: 1}, {Kind: api.EvBack, At: 22, Node: 101, Service: 1}} {
		if !slices.Contains(m.Events(), want) {
			t.Errorf("lacking: %+v in %+v", want, m.Events())
		}
	}
}

func TestDroppedVersion(t *testing.T) {
	// 1:1 is worked at still, when its request is over, and its version dropped: it makes no calls.
	c := two()
	c.Services[0].Work = 60
	x := ask(1, 5)
	x.R.Life = 30
	m := made(t, c, x, api.Line{Do: api.DoPublish, At: 11, C: c})
	m.Run(100)
	wantAnswer(t, m, 1, api.ErrLate, 35)
	wantAt(t, m, api.EvEffect, "1:1", 67)
	wantAt(t, m, api.EvSend, "1:1/0:1")
	wantAt(t, m, api.EvSpan, "1:1", 69)
	if _, ok := m.plane.Snap(1); ok || len(m.limiters) != 0 {
		t.Error("dropped")
	}
}

func TestEnd(t *testing.T) {
	m := made(t, two())
	m.Run(1 << 40)
	if m.Now() != api.MaxSteps || m.Step() || m.Now() != api.MaxSteps || len(m.Events()) != 0 {
		t.Error("end", m.Now())
	}
	m.Run(0)
	if e, at, ok := m.Answer(1); e != api.OK || at != 0 || ok {
		t.Error("answer")
	}
}
