package outlier

import (
	"math/rand"
	"slices"
	"testing"

	"pursebearer/api"
)

func watch() api.Watch {
	return api.Watch{Errors: 2, Window: 100, Dev: 0, Slow: 0, Share: 50, Base: 10, Top: 45}
}

func TestCheck(t *testing.T) {
	if Check(watch()) != api.OK {
		t.Error("ordinary")
	}
	for i, x := range []struct {
		at        func(*api.Watch) *int
		low, high int
	}{
		{func(w *api.Watch) *int { return &w.Errors }, 1, 100},
		{func(w *api.Watch) *int { return &w.Window }, 1, 10000},
		{func(w *api.Watch) *int { return &w.Dev }, 0, 100},
		{func(w *api.Watch) *int { return &w.Slow }, 0, 10000},
		{func(w *api.Watch) *int { return &w.Share }, 0, 100},
		{func(w *api.Watch) *int { return &w.Base }, 1, 45},
		{func(w *api.Watch) *int { return &w.Top }, 10, 10000},
	} {
		for n, want := range map[int]api.Errno{x.low: api.OK, x.high: api.OK, x.low - 1: api.ErrRange, x.high + 1: api.ErrRange} {
			w := watch()
			*x.at(&w) = n
			if got := Check(w); got != want {
				t.Error(i, n, got)
			}
		}
	}
}

func TestExample(t *testing.T) {
	g := New(watch(), []int{2, 1})
	if g.Note(5, 1, false, 0) || !g.Note(5, 1, false, 0) || g.Until(1) != 15 || g.Times(1) != 1 || !slices.Equal(g.Well(), []int{2}) {
		t.Error("ejected", g.Until(1))
	}
	if g.Note(6, 1, true, 1) || g.Note(6, 7, false, 1) || g.Until(7) != 0 || g.Times(7) != 0 {
		t.Error("noted")
	}
	if _, back := g.Tick(14); len(back) != 0 {
		t.Error("early")
	}
	if out, back := g.Tick(15); len(out) != 0 || !slices.Equal(back, []int{1}) || g.Until(1) != 0 || !slices.Equal(g.Well(), []int{1, 2}) {
		t.Error("back", back)
	}
	if !g.Note(16, 1, false, 0) || g.Until(1) != 36 {
		t.Error("again", g.Until(1))
	}
	g.Tick(36)
	if !g.Note(36, 1, false, 0) || g.Until(1) != 76 {
		t.Error("40", g.Until(1))
	}
	g.Tick(76)
	if !g.Note(76, 1, false, 0) || g.Until(1) != 76+45 || g.Times(1) != 4 {
		t.Error("top", g.Until(1))
	}
}

func TestRow(t *testing.T) {
	g := New(watch(), []int{1, 2})
	g.Note(0, 1, false, 0)
	if g.Note(0, 1, true, 3) || g.Note(0, 1, false, 0) {
		t.Error("not in a row")
	}
	if !g.Note(0, 1, false, 0) || g.Note(1, 2, false, 0) || g.Note(1, 2, false, 0) {
		t.Error("no room for the second one")
	}
	g.Tick(10)
	if !g.Note(10, 2, false, 0) { // the third one in its row, and there is room again
		t.Error("room")
	}
}

func TestForgiven(t *testing.T) {
	g := New(watch(), []int{1, 2, 3, 4})
	g.Note(0, 1, false, 0)
	g.Note(0, 1, false, 0)
	g.Tick(10)
	g.Tick(99)
	if g.Times(1) != 1 {
		t.Error("the window runs")
	}
	g.Tick(120)
	if g.Times(1) != 0 {
		t.Error("what was ahead of being ejected is gone")
	}
	g.Note(190, 2, false, 0)
	g.Note(190, 2, true, 4)
	if !g.Note(215, 1, false, 0) || g.Until(1) != 225 {
		t.Error("for as long as at first", g.Until(1))
	}
	g.Tick(220) // ends the window that began at 120, while 1 is ejected
	if g.Times(1) != 1 {
		t.Error("ejected ones are not forgiven", g.Times(1))
	}
	g.Tick(225)
	g.Note(230, 1, true, 1)
	g.Note(231, 1, false, 1)
	g.Note(232, 1, true, 1)
	g.Tick(320)
	if g.Times(1) != 1 {
		t.Error("wrong once")
	}
	g.Tick(420)
	if g.Times(1) != 0 || g.Times(2) != 0 {
		t.Error("asked nothing")
	}
}

// fill notes so many attempts, of which some are well, that take so many ticks.
func fill(g *Guard, now, id, good, all, took int) {
	for i := range all {
		g.Note(now, id, i < good, took)
	}
}

func TestDev(t *testing.T) {
	w := watch()
	w.Errors, w.Dev, w.Share = 100, 15, 25
	g := New(w, []int{1, 2, 3, 4, 5})
	for id := 1; id < 4; id++ {
		fill(g, 1, id, 9, 10, 1)
	}
	fill(g, 1, 4, 1, 10, 1)
	fill(g, 1, 5, 0, 4, 1) // too few
	if out, _ := g.Tick(99); len(out) != 0 {
		t.Error("early")
	}
	out, back := g.Tick(100)
	if !slices.Equal(out, []int{4}) || len(back) != 0 || g.Until(4) != 110 || g.Times(4) != 1 {
		t.Error(out, g.Times(4))
	}
	if out, back := g.Tick(199); len(out) != 0 || !slices.Equal(back, []int{4}) {
		t.Error("the next one begins at 100")
	}
	if out, _ := g.Tick(200); len(out) != 0 || g.Times(4) != 0 {
		t.Error("nothing was done", out)
	}
	w.Dev = 18
	g = New(w, []int{1, 2, 3, 4})
	for id := 1; id < 4; id++ {
		fill(g, 1, id, 9, 10, 1)
	}
	fill(g, 1, 4, 1, 10, 1)
	if out, _ := g.Tick(100); len(out) != 0 {
		t.Error("18", out)
	}
}

func TestSlow(t *testing.T) {
	w := watch()
	w.Errors, w.Slow = 100, 31
	g := New(w, []int{4, 3, 2, 1})
	fill(g, 0, 4, 5, 5, 32)
	fill(g, 0, 3, 5, 5, 33)
	fill(g, 0, 2, 5, 5, 31)
	fill(g, 0, 1, 0, 5, 99)
	out, _ := g.Tick(130)
	if !slices.Equal(out, []int{3, 4}) || !slices.Equal(g.Well(), []int{1, 2}) {
		t.Error(out)
	}
	// Nothing of theirs went wrong in that window: that forgives just what it added.
	if g.Until(3) != 140 || g.Times(3) != 0 {
		t.Error(g.Until(3), g.Times(3))
	}
	w.Share = 49
	g = New(w, []int{4, 3, 2, 1})
	fill(g, 0, 4, 5, 5, 32)
	fill(g, 0, 3, 5, 5, 33)
	if out, _ := g.Tick(100); !slices.Equal(out, []int{3}) {
		t.Error("room", out)
	}
}

func TestLeast(t *testing.T) {
	w := watch()
	w.Errors, w.Dev, w.Share = 100, 1, 100
	g := New(w, []int{1, 2})
	fill(g, 0, 1, 5, 5, 1)
	fill(g, 0, 2, 4, 5, 1)
	if out, _ := g.Tick(100); !slices.Equal(out, []int{2}) {
		t.Error("a tenth of a deviation", out)
	}
	w.Dev, w.Slow = 0, 1
	g = New(w, []int{1, 2})
	fill(g, 0, 1, 1, 5, 2)
	fill(g, 0, 2, 1, 5, 1)
	if out, _ := g.Tick(100); !slices.Equal(out, []int{1}) {
		t.Error("one that was well, and too slow", out)
	}
}

func TestKeep(t *testing.T) {
	g := New(watch(), []int{1, 2})
	g.Note(0, 1, false, 0)
	g.Note(0, 2, false, 0)
	g.Note(0, 2, false, 0)
	l := []int{3, 2, 1, 5}
	g.Keep(l)
	l[0] = 9
	if !slices.Equal(g.Well(), []int{1, 3, 5}) || g.Until(2) != 10 || !g.Note(1, 1, false, 0) {
		t.Error(g.Well())
	}
	g.Keep([]int{1})
	g.Keep([]int{1, 2})
	if g.Times(2) != 0 || g.Until(2) != 0 || g.Until(1) != 11 {
		t.Error("2 is new")
	}
	g.Keep(nil)
	if out, back := g.Tick(500); len(out)+len(back)+len(g.Well()) != 0 {
		t.Error("none")
	}
}

func TestShare(t *testing.T) {
	r := rand.New(rand.NewSource(1))
	for range 200 {
		w := api.Watch{Errors: 1 + r.Intn(3), Window: 1 + r.Intn(30), Dev: r.Intn(20), Slow: r.Intn(20), Share: r.Intn(101), Base: 1 + r.Intn(9), Top: 20}
		n := 1 + r.Intn(6)
		g := New(w, r.Perm(n))
		since := map[int]int{}
		for now := range 300 {
			out, _ := g.Tick(now)
			for _, id := range out {
				since[id] = now
			}
			for range r.Intn(8) {
				if id := r.Intn(n); g.Note(now, id, r.Intn(3) > 0, 1+r.Intn(30)) {
					since[id] = now
				}
			}
			if ejected := n - len(g.Well()); 100*ejected > w.Share*n {
				t.Fatal("too many", ejected, n, w.Share)
			}
			for id := range n {
				if u := g.Until(id); u > 0 && (u <= now || u > since[id]+w.Top || u < since[id]+w.Base) {
					t.Fatal("until", u, now)
				}
			}
		}
	}
}
