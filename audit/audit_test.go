package audit

import (
	"math"
	"math/rand"
	"slices"
	"testing"

	"pursebearer/api"
	"pursebearer/collect"
	"pursebearer/trace"
)

func event(kind, at int, c api.Ctx) api.Event { return api.Event{Kind: kind, At: at, C: c} }

func effect(key string, at int, idem bool) api.Event {
	return api.Event{Kind: api.EvEffect, At: at, Key: key, C: api.Ctx{Idem: idem}}
}

func TestReached(t *testing.T) {
	l := []api.Event{{Kind: api.EvReach, Service: 2}, {Kind: api.EvAsk}, {Kind: api.EvReach, Service: 1}, {Kind: api.EvStart, Service: 2}, {Kind: api.EvReach, Service: 2}, {Kind: api.EvAsk, Service: 2}}
	if a, f := Reached(l, 2); a != 2 || f != 2 {
		t.Error(a, f)
	}
	if a, f := Reached(nil, 2); a != 0 || f != 0 {
		t.Error(a, f)
	}
}

func TestAdmitted(t *testing.T) {
	l := []api.Event{{Kind: api.EvAdmit, N: 1, At: 5}, {Kind: api.EvAdmit, N: 1, At: 9}, {Kind: api.EvAdmit, N: 2, At: 5}, {Kind: api.EvAdmit, N: 1, At: 10}, {Kind: api.EvAsk, N: 1, At: 6}}
	if Admitted(l, 1, 5, 10) != 2 || Admitted(l, 1, 6, 10) != 1 || Admitted(l, 1, 5, 5) != 0 || Admitted(l, 3, 0, 99) != 0 || Admitted(l, 1, 5, 8)+Admitted(l, 1, 8, 11) != Admitted(l, 1, 5, 11) {
		t.Error("admitted")
	}
}

func TestTwice(t *testing.T) {
	l := []api.Event{effect("7/0", 9, false), effect("7/0", 5, false), effect("b", 3, true), effect("b", 3, false), effect("a", 3, false), effect("a", 3, false), event(api.EvStart, 3, api.Ctx{})}
	for horizon, want := range map[int][]string{0: nil, 1: {"a"}, 4: {"a"}, 5: {"7/0", "a"}, api.MaxTime: {"7/0", "a"}} {
		if got := Twice(l, horizon); !slices.Equal(got, want) {
			t.Error(horizon, got)
		}
	}
	if got := Twice([]api.Event{effect("x", 0, false), effect("x", 50, false), effect("x", 10, false)}, 41); !slices.Equal(got, []string{"x"}) {
		t.Error(got)
	}
}

func TestLate(t *testing.T) {
	c := func(call string, deadline int) api.Ctx { return api.Ctx{Call: call, Try: 1, Deadline: deadline} }
	l := []api.Event{event(api.EvStart, 5, c("b", 5)), event(api.EvStart, 5, c("a", 4)), event(api.EvStart, 5, c("c", 6)), event(api.EvReach, 5, c("d", 1)), event(api.EvStart, 9, c("b", 5))}
	if got := Late(l); !slices.Equal(got, []string{"b:1", "a:1"}) || len(Late(nil)) != 0 {
		t.Error(got)
	}
}

func TestTorn(t *testing.T) {
	c := func(req, version int) api.Ctx { return api.Ctx{Req: req, Version: version} }
	l := []api.Event{event(api.EvRoute, 1, c(9, 1)), event(api.EvRoute, 1, c(2, 1)), event(api.EvRoute, 1, c(9, 2)), event(api.EvSend, 1, c(2, 2)), event(api.EvRoute, 1, c(-4, 1)), event(api.EvRoute, 1, c(-4, 3)), event(api.EvRoute, 1, c(9, 1))}
	if got := Torn(l); !slices.Equal(got, []int{-4, 9}) || len(Torn(nil)) != 0 {
		t.Error(got)
	}
}

func TestGood(t *testing.T) {
	ask := func(req, at int) api.Event { return event(api.EvAsk, at, api.Ctx{Req: req}) }
	answer := func(req, n int) api.Event { return api.Event{Kind: api.EvAnswer, C: api.Ctx{Req: req}, N: n} }
	l := []api.Event{answer(3, 0), ask(1, 4), ask(2, 5), answer(2, 35), ask(3, 6), ask(3, 7), answer(1, 0), answer(9, 0)}
	for from, want := range map[int][2]int{0: {2, 3}, 5: {1, 2}, 6: {1, 1}, 7: {1, 1}, 8: {0, 0}} {
		if well, all := Good(l, from); well != want[0] || all != want[1] {
			t.Error(from, well, all)
		}
	}
}

func TestTrue(t *testing.T) {
	var log trace.Log
	truth := []api.Span{{Name: "7:1", Service: 1, From: 5}, {Name: "7:1/0:2", Service: 2, From: 9}, {Name: "7:1/1:1", Service: 3, From: 9}}
	for _, s := range truth {
		log.Note(s)
	}
	c := collect.New()
	c.Take(api.Span{Name: "7:1/0:2", Service: 2, From: 9, To: 12, Well: true, Kids: 4})
	c.Take(api.Span{Name: "7:1/1:1", Service: 3, From: 9, To: 12})
	lost := []string{"7:1", "8:1"}
	if !True(c.Tree(7), &log, lost) || !True(nil, &log, nil) {
		t.Error("true")
	}
	for i, x := range []struct {
		spoil func(l []collect.Node) []collect.Node
		lost  []string
	}{
		{func(l []collect.Node) []collect.Node { return l }, nil},
		{func(l []collect.Node) []collect.Node { return l }, []string{"7:1", "7:1/0:2"}},
		{func(l []collect.Node) []collect.Node { return l[1:] }, lost},
		{func(l []collect.Node) []collect.Node { return append(l, l[2]) }, lost},
		{func(l []collect.Node) []collect.Node { l[1].S.Service++; return l }, lost},
		{func(l []collect.Node) []collect.Node { l[1].S.From++; return l }, lost},
		{func(l []collect.Node) []collect.Node { l[1].Name = "7:1/0:3"; return l }, lost},
		{func(l []collect.Node) []collect.Node { l[1].Missing = true; return l }, lost},
		{func(l []collect.Node) []collect.Node { l[0].Missing = false; return l }, lost},
		{func(l []collect.Node) []collect.Node { return append(l, collect.Node{Name: "8:1", Missing: true}) }, lost},
		{func(l []collect.Node) []collect.Node { return append(l, collect.Node{Name: "odd"}) }, lost},
	} {
		if True(x.spoil(c.Tree(7)), &log, x.lost) {
			t.Error(i)
		}
	}
}

func TestCalm(t *testing.T) {
	c := api.Conf{Hop: 3, Watch: api.Watch{Window: 100, Top: 50}, Services: []api.Service{{Work: 4}, {Work: 9}, {Work: 2}}}
	if Calm(c) != 180+100+50+12+1000 || Calm(api.Conf{}) != 1000 || Calm(api.Conf{Services: []api.Service{{Work: -1}}}) != 980 {
		t.Error(Calm(c))
	}
}

func TestRow(t *testing.T) {
	r := rand.New(rand.NewSource(1))
	for range 300 {
		var l []api.Event
		for range r.Intn(30) {
			l = append(l, api.Event{Kind: 1 + r.Intn(13), At: r.Intn(20), Service: r.Intn(3), N: r.Intn(2), Key: string(rune('a' + r.Intn(4))), C: api.Ctx{Req: r.Intn(4), Version: r.Intn(2), Idem: r.Intn(2) == 0}})
		}
		turned := slices.Clone(l)
		r.Shuffle(len(turned), func(i, j int) { turned[i], turned[j] = turned[j], turned[i] })
		a, f := Reached(l, 1)
		b, g := Reached(turned, 1)
		w, n := Good(l, 5)
		x, m := Good(turned, 5)
		if a != b || f != g || w != x || n != m || !slices.Equal(Twice(l, 3), Twice(turned, 3)) || !slices.Equal(Torn(l), Torn(turned)) || Admitted(l, 1, 3, 9) != Admitted(turned, 1, 3, 9) {
			t.Fatal("the row")
		}
		for i := range l {
			for _, k := range Twice(l[:i], 3) {
				if !slices.Contains(Twice(l, 3), k) {
					t.Fatal("less")
				}
			}
			if len(Torn(l[:i])) > len(Torn(l)) || len(Late(l[:i])) > len(Late(l)) {
				t.Fatal("less")
			}
		}
	}
}

// TestCalmOfAny: a configuration that Calm is handed may be any; what is no int is as near to it as an int may be.
func TestCalmOfAny(t *testing.T) {
	of := func(work, window, top, hop int) int {
		return Calm(api.Conf{Hop: hop, Watch: api.Watch{Window: window, Top: top}, Services: []api.Service{{Work: math.MinInt}, {Work: work}}})
	}
	for _, x := range [][5]int{ // Work, Window, Top, Hop, what is told
		{math.MaxInt, 0, 0, 0, math.MaxInt}, {1 << 60, 0, 0, 0, math.MaxInt}, {0, math.MaxInt, 0, 0, math.MaxInt},
		{0, math.MaxInt - 1000, 0, 0, math.MaxInt}, {0, math.MaxInt - 1001, 0, 0, math.MaxInt - 1}, {0, math.MaxInt - 999, -1, 0, math.MaxInt},
		{0, 0, 0, math.MaxInt, math.MaxInt}, {0, 0, 0, 1 << 62, math.MaxInt}, {0, 0, math.MaxInt, -1, math.MaxInt},
		{math.MinInt, 0, 0, 0, math.MinInt}, {0, math.MinInt, 0, 0, math.MinInt + 1000}, {0, math.MinInt, -1000, 0, math.MinInt}, {0, math.MinInt, -1001, 0, math.MinInt},
		{1 << 59, 0, 0, -1 << 61, 1<<61 + 1000}, {math.MaxInt, math.MinInt, math.MinInt, math.MinInt, math.MaxInt},
		{1 << 40, -1 << 33, 1 << 32, -1, 20<<40 - 1<<33 + 1<<32 - 4 + 1000}, {-1 << 40, 5, 6, 7, -20<<40 + 11 + 28 + 1000},
	} {
		if got := of(x[0], x[1], x[2], x[3]); got != x[4] {
			t.Error(x, got)
		}
	}
}
