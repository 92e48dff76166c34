package proxy

import (
	"math"
	"slices"
	"strconv"
	"testing"

	"pursebearer/api"
	"pursebearer/cert"
	"pursebearer/ctx"
	"pursebearer/draw"
	"pursebearer/snap"
)

func rule(path string, service int) api.Rule {
	return api.Rule{
		M:     api.Match{Path: path},
		Parts: []api.Part{{Service: service, Weight: 1}},
		P:     api.Policy{Timeout: 40, Tries: 3, Back: 2, Budget: api.Budget{Per: 1, Of: 1, Burst: 10}},
	}
}

func conf() api.Conf {
	return api.Conf{
		Services: []api.Service{{ID: 1, Work: 3, Slots: 1, Queue: 5, Balance: api.ByRing}, {ID: 2, Work: 3, Slots: 1, Queue: 5, Balance: api.ByTwo}},
		Ends:     []api.End{{ID: 1, Service: 1, Zone: 1}, {ID: 2, Service: 2, Zone: 1}},
		Rules:    []api.Rule{rule("/", 1), rule("/b", 2)},
		Watch:    api.Watch{Errors: 2, Window: 100, Share: 100, Base: 10, Top: 100},
		Low:      10, High: 20, Wait: 5, Hop: 2, Life: 100, Purse: 8, Horizon: 100,
	}
}

// made is a proxy that has a configuration as version 1, and certificates of all its endpoints.
func made(t *testing.T, c api.Conf) *Proxy {
	t.Helper()
	s, e := snap.New(1, c)
	if e != api.OK {
		t.Fatal(e)
	}
	a := cert.New()
	p := New(0, draw.New(1, nil), a)
	if p.Apply(s) != api.OK {
		t.Fatal("apply")
	}
	for _, e := range c.Ends {
		p.Cert(e.ID, a.Issue(e.Service, 0, api.MaxTime))
	}
	return p
}

func root(id, deadline int) api.Ctx {
	return api.Ctx{Req: id, Call: strconv.Itoa(id), Deadline: deadline, Purse: 8, Version: 1}
}

// print tells acts in short words.
func print(l []Act) string {
	words := []string{"", "sends", "ends", "asks", "routes", "ejects", "backs", "admits", "sheds"}
	s := ""
	for _, a := range l {
		s += words[a.What]
		if a.C.Call != "" {
			s += " " + ctx.Span(a.C)
		}
		for _, x := range []struct {
			word string
			n    int
		}{{" to", a.To}, {" n", a.N}, {" service", a.Service}, {" e", int(a.E)}} {
			if x.n != 0 {
				s += x.word + strconv.Itoa(x.n)
			}
		}
		s += "; "
	}
	return s
}

func want(t *testing.T, l []Act, s string) {
	t.Helper()
	if got := print(l); got != s {
		t.Errorf("got %q, want %q", got, s)
	}
}

func TestExample(t *testing.T) {
	p := made(t, conf())
	got := p.Call(0, root(1, 100), "/x", []api.Head{{Name: "h", Value: "v"}}, 1)
	want(t, got, "routes 1 service1; sends 1:1 to1 service1; ")
	if x := got[1]; x.Path != "/x" || !slices.Equal(x.Heads, []api.Head{{Name: "h", Value: "v"}}) || x.C != ctx.Try(root(1, 100), 1, 4) {
		t.Error(x)
	}
	if p.Calls() != 1 || p.Waiting(1) != 0 {
		t.Error("calls")
	}
	want(t, p.Answer(5, "1:2", api.OK, 0), "")
	want(t, p.Answer(5, "1", api.OK, 0), "")
	want(t, p.Answer(5, "1:1", api.OK, 0), "ends 1; ")
	want(t, p.Answer(5, "1:1", api.OK, 0), "")
	if p.Calls() != 0 || p.alarms.Len() != 0 || len(p.attempts)+len(p.names)+len(p.flows) != 0 {
		t.Error("something is kept")
	}
}

func TestVersions(t *testing.T) {
	p := made(t, conf())
	two, _ := snap.New(2, conf())
	five, _ := snap.New(5, conf())
	one, _ := snap.New(1, conf())
	if fresh := New(0, p.d, p.a); fresh.Apply(five) != api.OK || fresh.Apply(two) != api.ErrOrder || fresh.Has(2) {
		t.Error("order")
	}
	if p.Has(2) || !p.Has(1) || p.Apply(one) != api.ErrTwice || p.Apply(five) != api.OK || p.Apply(two) != api.ErrOrder || p.Apply(five) != api.ErrTwice {
		t.Error("apply")
	}
	want(t, p.Call(0, root(1, 100), "/", nil, 1), "routes 1 service1; sends 1:1 to1 service1; ")
	p.Drop(1)
	p.Drop(9)
	if p.Has(1) || p.Apply(one) != api.ErrTwice {
		t.Error("drop")
	}
	want(t, p.Call(1, root(2, 100), "/", nil, 1), "ends 2 e17; ")
	want(t, p.Answer(5, "1:1", api.ErrFail, 0), "")
	want(t, p.Tick(7), "sends 1:2 to1 service1; ") // it goes on
	if !slices.Equal(p.Well(2), []int{2}) {
		t.Error("well")
	}
	p.Drop(5)
	if p.Apply(five) != api.ErrTwice || len(p.Well(2)) != 0 {
		t.Error("no version")
	}
}

func TestNone(t *testing.T) {
	c := conf()
	c.Rules = c.Rules[1:]
	p := made(t, c)
	want(t, p.Call(0, root(1, 100), "/a", nil, 1), "ends 1 e4; ")
	want(t, p.Call(0, root(2, 0), "/b", nil, 1), "routes 2 service2; ends 2 e32; ")
	if p.Calls() != 0 {
		t.Error("calls")
	}
}

func TestRewritten(t *testing.T) {
	c := conf()
	c.Rules[1].Prefix, c.Rules[1].Drop, c.Rules[1].Set = "/z", []string{"h"}, []api.Head{{Name: "x", Value: "1"}}
	c.Rules[1].M.Heads = []api.Head{{Name: "h"}}
	p := made(t, c)
	heads := []api.Head{{Name: "h", Value: "v"}, {Name: "k"}}
	got := p.Call(0, root(1, 100), "/b/c", heads, 1)
	want(t, got, "routes 1 n1 service2; sends 1:1 to2 service2; ")
	if x := got[1]; x.Path != "/z/c" || !slices.Equal(x.Heads, []api.Head{{Name: "k"}, {Name: "x", Value: "1"}}) {
		t.Error(x)
	}
	got[1].Heads[0].Name = "q"
	p.Answer(1, "1:1", api.ErrFail, 0)
	if x := p.Tick(3)[0]; x.Path != "/z/c" || x.Heads[0].Name != "k" {
		t.Error("shared", x)
	}
}

func TestAgain(t *testing.T) {
	p := made(t, conf())
	p.Call(0, root(1, 100), "/", nil, 1)
	want(t, p.Tick(39), "")
	want(t, p.Tick(40), "") // it took too long: the next one is due at 42
	want(t, p.Answer(41, "1:1", api.OK, 0), "")
	want(t, p.Tick(42), "sends 1:2 to1 service1; ")
	want(t, p.Answer(43, "1:2", api.ErrFull, 60), "")
	want(t, p.Tick(59), "")
	want(t, p.Tick(60), "sends 1:3 to1 service1; ")
	want(t, p.Tick(99), "")
	want(t, p.Tick(100), "ends 1 e32; ")
}

func TestBeside(t *testing.T) {
	c := conf()
	c.Rules[0].P.Hedge = 10
	p := made(t, c)
	p.Call(0, root(1, 100), "/", nil, 1)
	want(t, p.Tick(10), "sends 1:2 to1 service1; ")
	want(t, p.Answer(12, "1:1", api.OK, 0), "ends 1; ")
	if len(p.attempts) != 0 || p.versions[1].part(1).gate.Under() != 0 || len(p.versions[1].part(1).loads) != 0 {
		t.Error("the other one is dropped")
	}
}

func TestInject(t *testing.T) {
	c := conf()
	c.Rules[0].Inject = api.Inject{Abort: 3, Delay: 2, Ticks: 7}
	p := made(t, c)
	want(t, p.Call(0, root(1, 100), "/", nil, 1), "routes 1 service1; sends 1:1 to1 service1; ")
	want(t, p.Call(1, root(2, 100), "/", nil, 1), "routes 2 service1; ")
	want(t, p.Call(1, root(3, 100), "/", nil, 1), "routes 3 service1; ends 3 e34; ")
	want(t, p.Call(1, root(4, 5), "/", nil, 1), "routes 4 service1; ")
	want(t, p.Tick(4), "")
	want(t, p.Tick(5), "ends 4 e32; ")
	if p.Calls() != 2 {
		t.Error("calls", p.Calls())
	}
	want(t, p.Tick(8), "sends 2:1 to1 service1; ")
	c.Rules[0].Inject = api.Inject{Delay: 1, Ticks: 1}
	p = made(t, c)
	want(t, p.Call(0, root(1, 100), "/", nil, 1), "routes 1 service1; ")
	want(t, p.Tick(1), "sends 1:1 to1 service1; ")
	c.Rules[0].Inject = api.Inject{Delay: 1}
	want(t, made(t, c).Call(0, root(1, 100), "/", nil, 1), "routes 1 service1; sends 1:1 to1 service1; ")
}

func TestRate(t *testing.T) {
	c := conf()
	c.Rates = []api.Rate{{Limit: 9, Window: 50, Slice: 3}, {Limit: 9, Window: 10, Slice: 3}}
	c.Rules[0].Rate, c.Rules[1].Rate = 2, 1
	p := made(t, c)
	want(t, p.Call(0, root(1, 100), "/", nil, 1), "routes 1 service1; asks 1 n2; ")
	want(t, p.Call(0, root(2, 100), "/", nil, 1), "routes 2 service1; asks 2 n2; ")
	want(t, p.Call(0, root(3, 100), "/b", nil, 1), "routes 3 n1 service2; asks 3 n1; ")
	if p.Calls() != 3 {
		t.Error("calls")
	}
	want(t, p.Lease(0, 2, 2, 9), "")
	want(t, p.Lease(0, 1, 3, 9), "")
	want(t, p.Lease(0, 1, 0, 9), "")
	want(t, p.Lease(1, 1, 2, 1), "admits 1 n2; sends 1:1 to1 service1; ends 2 e15; ")
	want(t, p.Lease(2, 1, 2, 2), "")
	want(t, p.Call(3, root(4, 100), "/", nil, 1), "routes 4 service1; admits 4 n2; sends 4:1 to1 service1; ")
	want(t, p.Call(11, root(5, 100), "/", nil, 1), "routes 5 service1; asks 5 n2; ")
	want(t, p.Lease(11, 1, 2, 0), "ends 5 e15; ")
	p.Drop(1)
	want(t, p.Lease(12, 1, 1, 3), "admits 3 n1; sends 3:1 to2 service2; ")
	want(t, p.Lease(13, 1, 1, 3), "")
}

// TestGreatLeases: a lease may be any number, and come again.
func TestGreatLeases(t *testing.T) {
	c := conf()
	c.Rates = []api.Rate{{Limit: 9, Window: 50, Slice: 3}}
	c.Rules[0].Rate = 1
	p := made(t, c)
	for _, n := range []int{math.MaxInt, math.MaxInt, 2} {
		want(t, p.Lease(0, 1, 1, n), "")
	}
	for id := 1; id < 5; id++ {
		n := strconv.Itoa(id)
		want(t, p.Call(0, root(id, 100), "/", nil, 1), "routes "+n+" service1; admits "+n+" n1; sends "+n+":1 to1 service1; ")
	}
}

func TestShed(t *testing.T) {
	c := conf()
	c.Low, c.High, c.Wait = 1, 1, 1
	c.Rules[0].P.Tries = 1
	p := made(t, c)
	p.Call(0, root(1, 100), "/", nil, 1)
	want(t, p.Call(0, root(2, 100), "/", nil, 1), "routes 2 service1; ")
	want(t, p.Call(0, root(3, 100), "/", nil, 1), "routes 3 service1; sheds 3:1; ends 3 e33; ") // the greater flow
	x := root(4, 100)
	x.Prio = 3
	want(t, p.Call(0, x, "/", nil, 1), "routes 4 service1; sheds 2:1; ends 2 e33; ")
	if p.Waiting(1) != 1 || p.Waiting(2) != 0 || p.Calls() != 2 {
		t.Error("waiting", p.Waiting(1))
	}
	want(t, p.Answer(5, "4:1", api.OK, 0), "") // it was not sent
	want(t, p.Answer(5, "1:1", api.OK, 0), "ends 1; sends 4:1 to1 service1; ")
	want(t, p.Call(6, root(5, 30), "/", nil, 1), "routes 5 service1; ")
	want(t, p.Answer(30, "4:1", api.ErrFail, 0), "ends 4 e35; ends 5 e32; ") // too late to be sent
	if p.Waiting(1) != 0 || len(p.attempts) != 0 || p.versions[1].part(1).gate.Under() != 0 {
		t.Error("waiting", p.Waiting(1))
	}
}

func TestLimitTold(t *testing.T) {
	c := conf()
	c.Low, c.High, c.Wait = 1, 4, 9
	p := made(t, c)
	for i, x := range []struct {
		e    api.Errno
		want int
	}{{api.OK, 2}, {api.OK, 2}, {api.ErrLate, 2}, {api.ErrDown, 2}, {api.ErrFull, 1}, {api.OK, 2}, {api.ErrFail, 1}} {
		id := strconv.Itoa(i + 1)
		p.Call(9*i, root(i+1, 9*i+8), "/", nil, 1)
		p.Answer(9*i+5, id+":1", x.e, 0)
		if got := p.versions[1].part(1).gate.Limit(); got != x.want {
			t.Error(i, got)
		}
		p.Tick(9*i + 8)
	}
}

func TestWaitsTooLong(t *testing.T) {
	c := conf()
	c.Low, c.High, c.Wait = 1, 1, 5
	p := made(t, c)
	p.Call(0, root(1, 100), "/", nil, 1)
	p.Call(0, root(2, 100), "/", nil, 1)
	// 1:1 is dropped first, which lets 2:1 go on ahead of its own alarm; then that is dropped, too.
	want(t, p.Tick(40), "sends 2:1 to1 service1; ejects to1 service1; ")
}

func TestEjected(t *testing.T) {
	c := conf()
	c.Ends = append(c.Ends, api.End{ID: 3, Service: 1, Zone: 1})
	c.Rules[0].P.Tries, c.Rules[0].P.Back = 8, 0
	p := made(t, c)
	got := p.Call(0, root(1, 100), "/", nil, 1)
	end := got[1].To
	other := 4 - end
	p.Answer(1, "1:1", api.ErrFail, 0)
	want(t, p.Tick(1), "sends 1:2 to"+strconv.Itoa(end)+" service1; ")
	want(t, p.Answer(2, "1:2", api.ErrFull, 0), "") // nothing that an endpoint is blamed for
	want(t, p.Tick(2), "sends 1:3 to"+strconv.Itoa(end)+" service1; ")
	want(t, p.Answer(3, "1:3", api.ErrFail, 0), "ejects to"+strconv.Itoa(end)+" service1; ")
	want(t, p.Tick(3), "sends 1:4 to"+strconv.Itoa(other)+" service1; ")
	if !slices.Equal(p.Well(1), []int{other}) || !slices.Equal(p.Well(2), []int{2}) {
		t.Error("well", p.Well(1))
	}
	want(t, p.Tick(12), "")
	want(t, p.Tick(13), "backs to"+strconv.Itoa(end)+" service1; ")
	if !slices.Equal(p.Well(1), []int{1, 3}) {
		t.Error("well", p.Well(1))
	}
}

func TestEjectedByWindow(t *testing.T) {
	c := conf()
	c.Watch = api.Watch{Errors: 100, Window: 20, Slow: 5, Share: 100, Base: 10, Top: 10}
	p := made(t, c)
	for id := 1; id <= 5; id++ {
		p.Call(0, root(id, 100), "/", nil, 1)
	}
	for id := 1; id <= 5; id++ {
		want(t, p.Answer(6, strconv.Itoa(id)+":1", api.OK, 0), "ends "+strconv.Itoa(id)+"; ")
	}
	want(t, p.Tick(19), "")
	want(t, p.Tick(20), "ejects to1 service1; ")
	// Two versions have guards of their own.
	two, _ := snap.New(2, conf())
	p.Apply(two)
	if !slices.Equal(p.Well(1), []int{1}) || len(p.versions[1].part(1).guard.Well()) != 0 {
		t.Error("well", p.Well(1))
	}
	want(t, p.Tick(30), "backs to1 service1; ")
}

func TestNobody(t *testing.T) {
	c := conf()
	c.Ends = c.Ends[:1]
	c.Watch.Errors = 1
	p := made(t, c)
	want(t, p.Call(0, root(1, 100), "/b", nil, 1), "routes 1 n1 service2; ")
	want(t, p.Tick(2), "")
	want(t, p.Tick(6), "ends 1 e36; ")
	if len(p.Well(2)) != 0 {
		t.Error("well")
	}
}

func TestCertificates(t *testing.T) {
	c := conf()
	c.Watch.Errors = 3
	p := made(t, c)
	p.Cert(1, api.Cert{})
	want(t, p.Call(5, root(1, 100), "/", nil, 1), "routes 1 service1; ")
	p.Cert(1, p.a.Issue(2, 0, 100))
	want(t, p.Tick(7), "")
	x := p.a.Issue(1, 0, 100)
	p.a.Revoke(x.Serial)
	p.Cert(1, x)
	want(t, p.Tick(11), "ejects to1 service1; ends 1 e22; ")
	if part := p.versions[1].part(1); part.gate.Under() != 0 || len(part.loads) != 0 {
		t.Error("kept")
	}
}

func TestMirror(t *testing.T) {
	c := conf()
	c.Rules[0].Mirror, c.Rules[0].Prefix = 2, "/m"
	p := made(t, c)
	p.Cert(2, api.Cert{})
	got := p.Call(0, root(1, 100), "/x", nil, 1)
	want(t, got, "routes 1 service1; sends 1:1 to1 service1; sends 1~:1 to2 service2; ")
	if x := got[2]; x.C != ctx.Try(ctx.Copy(root(1, 100)), 1, 0) || x.Path != "/m/x" {
		t.Error(x)
	}
	want(t, p.Answer(3, "1~:1", api.ErrFail, 0), "")
	p.Answer(3, "1:1", api.ErrFail, 0)
	want(t, p.Tick(5), "sends 1:2 to1 service1; ") // the first one alone is copied
	if len(p.versions[1].part(2).loads) != 0 {
		t.Error("loads")
	}
	c.Ends = c.Ends[:1]
	want(t, made(t, c).Call(0, root(1, 100), "/x", nil, 1), "routes 1 service1; sends 1:1 to1 service1; ")
}

func TestDrawn(t *testing.T) {
	c := conf()
	c.Services[0].Balance = api.ByTwo
	c.Ends = []api.End{{ID: 1, Service: 1, Zone: 1}, {ID: 5, Service: 1, Zone: 2}, {ID: 6, Service: 1, Zone: 2}, {ID: 7, Service: 1, Zone: 1}}
	c.Watch.Errors = 1
	p := made(t, c)
	// 99: it stays in its zone as long as all are well there; then the two that are drawn.
	p.d = draw.New(0, []uint64{99, 1, 0, 99, 0, 0, 50, 49})
	want(t, p.Call(0, root(1, 100), "/", nil, 2), "routes 1 service1; sends 1:1 to6 service1; ")
	want(t, p.Call(0, root(2, 100), "/", nil, 2), "routes 2 service1; sends 2:1 to5 service1; ")
	want(t, p.Answer(1, "1:1", api.ErrFail, 0), "ejects to6 service1; ")
	if p.d.Used() != 6 {
		t.Error("used", p.d.Used())
	}
	// One of two is well here: of 50 it goes elsewhere.
	p.d = draw.New(0, []uint64{50, 0, 0, 49})
	want(t, p.Call(1, root(3, 100), "/", nil, 2), "routes 3 service1; sends 3:1 to1 service1; ")
	want(t, p.Call(1, root(4, 100), "/", nil, 2), "routes 4 service1; sends 4:1 to5 service1; ")
	if p.d.Used() != 4 {
		t.Error("used", p.d.Used())
	}
}
