package sketch

import (
	"math"
	"math/rand"
	"slices"
	"testing"

	"pursebearer/api"
	"pursebearer/fix"
)

func TestBucket(t *testing.T) {
	for n, want := range map[int]int{0: 0, 15: 15, 16: 16, 17: 16, 18: 17, 31: 23, 32: 24, 35: 24, 36: 25, api.Most: 479} {
		if got := Bucket(n); got != want {
			t.Error(n, got)
		}
	}
	low := 0
	for b := range 480 {
		top := Top(b)
		if Bucket(low) != b || Bucket(top) != b || top > low && 8*(top-low) >= low {
			t.Error(b, low, top)
		}
		low = top + 1
	}
	if low != api.Most+1 {
		t.Error("top", low)
	}
}

func pick(r *rand.Rand) int { return int(r.Uint64()>>2) >> r.Intn(62) }

func TestAt(t *testing.T) {
	r := rand.New(rand.NewSource(1))
	for range 300 {
		s := New()
		l := make([]int, 1+r.Intn(30))
		for i := range l {
			l[i] = pick(r)
			s.Add(l[i])
		}
		slices.Sort(l)
		last := 0
		for _, permil := range []int{0, 1, 499, 500, 501, 900, 999, 1000} {
			k := max(1, fix.Up(len(l)*permil, 1000))
			got := s.At(permil)
			if got != Top(Bucket(l[k-1])) || got < last {
				t.Fatal(l, permil, got)
			}
			last = got
		}
		if s.Len() != len(l) {
			t.Fatal("len")
		}
	}
	s := New()
	if s.At(0) != 0 || s.At(1000) != 0 || s.Len() != 0 {
		t.Error("none")
	}
	for _, n := range []int{100, 2, 1, 3} {
		s.Add(n)
	}
	if s.At(500) != 2 || s.At(1000) != 103 || s.At(0) != 1 || s.At(501) != 3 {
		t.Error("example")
	}
}

func TestJoin(t *testing.T) {
	r := rand.New(rand.NewSource(2))
	same := func(a, b *Sketch) bool {
		for permil := range 1001 {
			if a.At(permil) != b.At(permil) {
				return false
			}
		}
		return a.Len() == b.Len()
	}
	for range 50 {
		parts := []*Sketch{New(), New(), New()}
		all := New()
		for range r.Intn(40) {
			n := pick(r)
			all.Add(n)
			parts[r.Intn(3)].Add(n)
		}
		a, b, c := parts[0], parts[1], parts[2]
		was := a.Len()
		if !same(all, a.Join(b).Join(c)) || !same(all, c.Join(b.Join(a))) || !same(a.Join(a), a.Join(a)) || a.Len() != was {
			t.Fatal("join")
		}
		j := a.Join(New())
		j.Add(5)
		if a.Len() != was {
			t.Fatal("shared")
		}
	}
}

// TestDoubled: what is joined with itself doubles, and so becomes great in few steps.
func TestDoubled(t *testing.T) {
	s := New()
	for _, n := range []int{3, 5, 5, 20} {
		s.Add(n)
	}
	at := func(permil, want int) {
		t.Helper()
		if got := s.At(permil); got != want {
			t.Error(s.Len(), permil, got, want)
		}
	}
	for n := 4; n > 0; n *= 2 { // as long as an int tells how many there are
		if s.Len() != n {
			t.Fatal(s.Len(), n)
		}
		at(0, 3)
		at(250, 3)
		at(251, 5)
		at(500, 5)
		at(750, 5)
		at(751, 21)
		at(1000, 21)
		s = s.Join(s)
	}
	s = s.Join(s)
	if s.Len() != math.MaxInt || s.Join(New()).Len() != math.MaxInt || New().Join(s).Len() != math.MaxInt {
		t.Error("more than an int", s.Len())
	}
	s.Add(3)
	if at(0, 3); s.Len() != math.MaxInt || s.At(1000) < 3 || s.At(1000) > 21 {
		t.Error("one more", s.Len())
	}
}
