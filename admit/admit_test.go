package admit

import (
	"math"
	"math/rand"
	"slices"
	"testing"

	"pursebearer/api"
)

func TestExample(t *testing.T) {
	g := New(1, 4, 1)
	if what, shed, is := g.Enter(api.Item{ID: 1}); what != Runs || shed != (api.Item{}) || is {
		t.Error("a")
	}
	if what, shed, is := g.Enter(api.Item{ID: 2, Prio: 1}); what != Waits || shed != (api.Item{}) || is {
		t.Error("b")
	}
	if what, shed, is := g.Enter(api.Item{ID: 3, Prio: 2, Flow: 7}); what != Waits || shed != (api.Item{ID: 2, Prio: 1}) || !is {
		t.Error("c")
	}
	if what, shed, is := g.Enter(api.Item{ID: 4, Prio: 0}); what != Shed || shed != (api.Item{}) || is {
		t.Error("d")
	}
	if g.Under() != 1 || g.Waiting() != 1 || g.Limit() != 1 {
		t.Error("counts")
	}
	if got := g.Done(5, 9, 1, true); len(got) != 0 || g.Limit() != 1 || g.Under() != 1 {
		t.Error("nobody is done")
	}
	if got := g.Done(5, 3, 1, true); len(got) != 0 || g.Waiting() != 1 {
		t.Error("one that waits is not done")
	}
	if got := g.Done(5, 1, 3, true); !slices.Equal(got, []int{3}) || g.Limit() != 2 || g.Under() != 1 || g.Waiting() != 0 {
		t.Error("done", got, g.Limit())
	}
}

func TestGone(t *testing.T) {
	g := New(2, 2, 5)
	for id := range 5 {
		g.Enter(api.Item{ID: id, Flow: id})
	}
	if got := g.Gone(3); len(got) != 0 || g.Waiting() != 2 || g.Under() != 2 {
		t.Error("one that waits", got)
	}
	if got := g.Gone(0); !slices.Equal(got, []int{2}) || g.Under() != 2 || g.Waiting() != 1 {
		t.Error("one that is under way", got)
	}
	if got := g.Gone(77); len(got) != 0 || g.Under() != 2 || g.Waiting() != 1 {
		t.Error("nobody", got)
	}
	if g.limit.Base() != 0 {
		t.Error("the limit is told")
	}
}

func TestLimitTold(t *testing.T) {
	g := New(1, 9, 9)
	g.Enter(api.Item{ID: 1})
	g.Enter(api.Item{ID: 2})
	g.Enter(api.Item{ID: 3})
	if got := g.Done(0, 1, 2, true); !slices.Equal(got, []int{2, 3}) || g.Limit() != 2 {
		t.Error("both", got)
	}
	g.Enter(api.Item{ID: 4})
	if got := g.Done(1, 2, 2, true); !slices.Equal(got, []int{4}) || g.Limit() != 3 { // 2 under way, it too
		t.Error(got, g.Limit())
	}
	if g.Done(2, 3, 2, false); g.Limit() != 2 {
		t.Error("cut", g.Limit())
	}
}

func TestAll(t *testing.T) {
	r := rand.New(rand.NewSource(1))
	for range 300 {
		low := 1 + r.Intn(4)
		high, wait := low+r.Intn(5), r.Intn(6)
		g := New(low, high, wait)
		const runs, waits, out = 1, 2, 3
		state := map[int]int{}
		on := func(l []int) {
			for _, id := range l {
				if state[id] != waits {
					t.Fatal("goes on, but does not wait", id)
				}
				state[id] = runs
			}
		}
		check := func() {
			n := map[int]int{}
			for _, s := range state {
				n[s]++
			}
			if n[runs] != g.Under() || n[waits] != g.Waiting() || n[runs] > high || n[waits] > wait || n[waits] > 0 && n[runs] < g.Limit() {
				t.Fatal("counts", n, g.Under(), g.Waiting(), g.Limit())
			}
		}
		now := 0
		for id := range 80 {
			now += r.Intn(3)
			who := r.Intn(id + 1)
			switch r.Intn(4) {
			case 0:
				l := g.Done(now, who, 1+r.Intn(20), r.Intn(3) > 0)
				if state[who] == runs {
					state[who] = out
				}
				on(l)
			case 1:
				l := g.Gone(who)
				if state[who] != 0 {
					state[who] = out
				}
				on(l)
			default:
				x := api.Item{ID: id, Prio: r.Intn(4), Flow: r.Intn(3)}
				what, shed, is := g.Enter(x)
				state[id] = what
				if is {
					if state[shed.ID] != waits || shed.Prio > x.Prio {
						t.Fatal("shed", shed)
					}
					state[shed.ID] = out
				}
			}
			check()
		}
		for id := range 80 {
			if state[id] == runs {
				state[id] = out
				on(g.Gone(id))
			}
		}
		for id := range 80 { // those that were let on behind
			if state[id] == runs {
				state[id] = out
				on(g.Done(now, id, 1, false))
			}
		}
		check()
	}
}

// TestGreatest: a gate's bounds have none themselves.
func TestGreatest(t *testing.T) {
	for _, low := range []int{math.MaxInt, math.MaxInt - 1, math.MaxInt/3 + 1, 1 << 62} {
		g := New(low, math.MaxInt, math.MaxInt)
		for id := range 3 {
			if what, _, _ := g.Enter(api.Item{ID: id}); what != Runs {
				t.Error(low, what)
			}
		}
		for id, well := range []bool{false, true, false} {
			if g.Done(id, id, 1, well); g.Limit() != low {
				t.Error(low, id, g.Limit())
			}
		}
	}
	g := New(1, 9, 9)
	g.Enter(api.Item{ID: 1})
	if g.Done(0, 1, math.MaxInt, true); g.Limit() != 2 {
		t.Error("nothing took less", g.Limit())
	}
	g.Enter(api.Item{ID: 2})
	g.Enter(api.Item{ID: 3})
	if g.Done(0, 2, math.MaxInt/4, true); g.Limit() != 3 {
		t.Error("the base is less", g.Limit())
	}
	if g.Done(0, 3, math.MaxInt, true); g.Limit() != 2 {
		t.Error("more than 4 times the base", g.Limit())
	}
}
