package server

import (
	"math"
	"math/rand"
	"slices"
	"strconv"
	"testing"

	"pursebearer/api"
	"pursebearer/ctx"
	"pursebearer/dedup"
)

func try(req, n int) api.Ctx {
	return api.Ctx{Req: req, Call: strconv.Itoa(req), Try: n, Deadline: 1000, Prio: 1}
}

func one() api.Service { return api.Service{ID: 1, Work: 2, Slots: 1, Queue: 5} }

func step(s *Server, now int) []Out { return s.Step(now, false, 0, 1) }

func TestExample(t *testing.T) {
	s := New(one(), dedup.New(100))
	outs, fresh := s.Come(5, try(1, 1))
	if len(outs) != 0 || !fresh || s.Waiting() != 1 || s.Working() != 0 {
		t.Error("come", outs)
	}
	if got := step(s, 5); !slices.Equal(got, []Out{{What: Began, C: try(1, 1)}}) || s.Waiting() != 0 || s.Working() != 1 {
		t.Error("began", got)
	}
	if got := step(s, 6); len(got) != 0 {
		t.Error("works", got)
	}
	if got := step(s, 7); !slices.Equal(got, []Out{{What: Worked, C: try(1, 1), Effect: true}}) || s.Working() != 0 {
		t.Error("worked", got)
	}
}

func TestTwice(t *testing.T) {
	s := New(one(), dedup.New(100))
	s.Come(0, try(1, 1))
	if outs, fresh := s.Come(0, try(1, 1)); len(outs) != 0 || fresh || s.Waiting() != 1 {
		t.Error("waits")
	}
	step(s, 0)
	step(s, 1)
	step(s, 2)
	if _, fresh := s.Come(9, try(1, 1)); fresh {
		t.Error("ended")
	}
	if _, fresh := s.Come(9, try(1, 2)); !fresh {
		t.Error("another attempt")
	}
	s.Crash(10)
	if outs, fresh := s.Come(10, try(2, 1)); len(outs) != 0 || fresh {
		t.Error("down")
	}
	s.Up(11)
	if _, fresh := s.Come(11, try(1, 1)); !fresh {
		t.Error("crashed")
	}
}

func TestFull(t *testing.T) {
	x := one()
	x.Queue = 2
	s := New(x, dedup.New(100))
	low, high := try(3, 1), try(4, 1)
	low.Prio, high.Prio = 0, 3
	s.Come(0, try(1, 1))
	s.Come(0, try(2, 1))
	if outs, fresh := s.Come(0, low); !slices.Equal(outs, []Out{{What: Failed, C: low, E: api.ErrFull}}) || !fresh {
		t.Error("itself", outs)
	}
	if outs, fresh := s.Come(0, high); !slices.Equal(outs, []Out{{What: Failed, C: try(2, 1), E: api.ErrFull}}) || !fresh {
		t.Error("another one", outs)
	}
	if _, fresh := s.Come(0, low); fresh || s.Waiting() != 2 {
		t.Error("it came")
	}
	if got := step(s, 0); len(got) != 1 || got[0].C != high {
		t.Error("priority", got)
	}
}

func TestLate(t *testing.T) {
	x := one()
	x.Slots = 2
	s := New(x, dedup.New(100))
	for i := range 4 {
		c := try(i+1, 1)
		c.Deadline = 7 + i
		s.Come(5, c)
	}
	got := step(s, 8)
	what := []int{}
	for _, o := range got {
		what = append(what, o.What, int(o.E))
	}
	if !slices.Equal(what, []int{Failed, 32, Failed, 32, Began, 0, Began, 0}) {
		t.Error(got)
	}
}

func TestEffect(t *testing.T) {
	d := dedup.New(10)
	a, b := New(one(), d), New(one(), d)
	end := func(s *Server, now int, c api.Ctx) Out {
		s.Come(now-2, c)
		step(s, now-2)
		step(s, now-1)
		l := step(s, now)
		if len(l) != 1 || l[0].What != Worked || l[0].C != c {
			t.Fatal(l)
		}
		return l[0]
	}
	if !end(a, 10, try(1, 1)).Effect || end(b, 15, try(1, 2)).Effect || !end(b, 20, try(1, 3)).Effect {
		t.Error("horizon")
	}
	idem := try(2, 1)
	idem.Idem = true
	if !end(a, 22, idem).Effect || !end(b, 23, idem).Effect || d.Has(23, "2") {
		t.Error("idem")
	}
	if end(a, 25, ctx.Try(ctx.Copy(try(3, 0)), 1, 0)).Effect || d.Has(25, "3~") {
		t.Error("copy")
	}
	kid := api.Ctx{Req: 4, Call: "4:2/1", Try: 1, Deadline: 1000}
	if !end(a, 30, kid).Effect || !d.Has(30, "4/1") {
		t.Error("key")
	}
	a.Crash(31)
	a.Up(31)
	if kid.Try = 2; end(a, 34, kid).Effect {
		t.Error("crash")
	}
}

func TestFaults(t *testing.T) {
	x := one()
	x.Work, x.Slots = 1, 4
	s := New(x, dedup.New(1000))
	for i := range 6 {
		s.Come(0, try(i+1, 1))
	}
	s.Come(0, try(7, 1)) // the sixth one of the queue sheds
	if got := s.Step(0, true, 1, 1); len(got) != 0 || s.Working() != 0 {
		t.Error("paused", got)
	}
	s.Step(0, false, 2, 3)
	if s.Working() != 4 || len(step(s, 1)) != 0 || s.Working() != 4 {
		t.Error("lazy")
	}
	s.Step(2, true, 0, 1)
	if len(step(s, 3)) != 0 {
		t.Error("paused in between")
	}
	got := s.Step(4, false, 2, 1)
	what := []int{}
	for _, o := range got {
		what = append(what, o.What, int(o.E))
	}
	if !slices.Equal(what, []int{Worked, 0, Failed, 35, Worked, 0, Failed, 35, Began, 0}) {
		t.Error("sick", got)
	}
	if got := s.Step(5, false, 5, 1); len(got) != 1 || got[0].What != Failed {
		t.Error("the fifth one", got)
	}
	s.Come(6, try(20, 1))
	step(s, 6)
	s.Crash(6)
	s.Up(6)
	s.Come(6, try(21, 1))
	step(s, 6)
	if got := s.Step(7, false, 7, 1); len(got) != 1 || got[0].What != Worked {
		t.Error("counted anew", got)
	}
}

func TestSlots(t *testing.T) {
	x := one()
	x.Slots, x.Warm = 3, 10
	s := New(x, dedup.New(100))
	if s.Slots(0) != 3 || s.Down() {
		t.Error("new")
	}
	s.Up(3)
	if s.Slots(4) != 3 {
		t.Error("it was up")
	}
	for i := range 4 {
		s.Come(5, try(i+1, 1))
	}
	step(s, 5)
	s.Crash(6)
	if s.Slots(6) != 0 || !s.Down() || s.Waiting() != 0 || s.Working() != 0 || len(step(s, 6)) != 0 {
		t.Error("crash")
	}
	s.Up(20)
	s.Up(25)
	for now, want := range map[int]int{20: 1, 29: 1, 30: 2, 39: 2, 40: 3, 50: 3, 900: 3} {
		if got := s.Slots(now); got != want {
			t.Error(now, got)
		}
	}
	x.Warm = 0
	s = New(x, dedup.New(100))
	s.Crash(0)
	s.Crash(1)
	s.Up(2)
	if s.Slots(2) != 3 {
		t.Error("no warming")
	}
}

func TestOnce(t *testing.T) {
	r := rand.New(rand.NewSource(1))
	for range 200 {
		x := api.Service{ID: 1, Work: 1 + r.Intn(4), Slots: 1 + r.Intn(3), Queue: r.Intn(4), Warm: r.Intn(4)}
		horizon := 20
		s := New(x, dedup.New(horizon))
		effect := map[string]int{}
		begun, ended := map[string]int{}, map[string]bool{}
		for now := range 120 {
			switch r.Intn(30) {
			case 0:
				s.Crash(now)
				begun, ended = map[string]int{}, map[string]bool{}
			case 1, 2, 3:
				s.Up(now)
			}
			c := try(1+r.Intn(3), 1+r.Intn(8))
			c.Deadline = now + r.Intn(12)
			outs, _ := s.Come(now, c)
			outs = append(outs, step(s, now)...)
			for _, o := range outs {
				name := ctx.Span(o.C)
				if o.What == Began {
					if _, ok := begun[name]; ok || ended[name] || now >= o.C.Deadline {
						t.Fatal("began", name)
					}
					begun[name] = now
					continue
				}
				at, ok := begun[name]
				if ended[name] || o.What == Worked && (!ok || now != at+x.Work) {
					t.Fatal("ended", name, at, now)
				}
				ended[name] = true
				if o.Effect {
					if was, ok := effect[ctx.Key(o.C)]; ok && now < was+horizon {
						t.Fatal("twice", name)
					}
					effect[ctx.Key(o.C)] = now
				}
			}
			if s.Waiting() > x.Queue || s.Working() > s.Slots(now) || !s.Down() && s.Waiting() > 0 && s.Working() < s.Slots(now) {
				t.Fatal("waits", s.Waiting(), s.Working())
			}
		}
	}
}

// TestLong: Work, and lazy, may be any numbers from 1 on; their product may be none.
func TestLong(t *testing.T) {
	for _, l := range [][2]int{{1 << 62, 4}, {1 << 62, 2}, {3, math.MaxInt}, {math.MaxInt, 3}, {math.MaxInt, 1}, {1, math.MaxInt}, {math.MaxInt, math.MaxInt}, {1 << 32, 1 << 32}} {
		x := one()
		x.Work = l[0]
		s := New(x, dedup.New(100))
		s.Come(0, try(1, 1))
		for now := range 20 {
			for _, o := range s.Step(now, false, 0, l[1]) {
				if o.What != Began || now > 0 {
					t.Fatal(l, now, o)
				}
			}
		}
		if s.Working() != 1 {
			t.Error(l, "works no more")
		}
	}
	x := one()
	x.Work, x.Slots, x.Queue, x.Warm = 2, math.MaxInt, math.MaxInt, math.MaxInt
	s := New(x, dedup.New(100))
	s.Come(0, try(1, 1))
	s.Step(0, false, math.MaxInt, 3)
	for now := 1; now <= 6; now++ {
		if got := s.Step(now, false, math.MaxInt, 1); (len(got) == 1) != (now == 6) {
			t.Error(now, got)
		}
	}
	s.Crash(7)
	s.Up(8)
	if s.Slots(8) != 1 || s.Slots(api.MaxTime) != 1 {
		t.Error("slots")
	}
}
