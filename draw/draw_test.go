package draw

import (
	"hash/fnv"
	"math/rand"
	"testing"
)

func TestNext(t *testing.T) {
	said := []uint64{7, 1<<64 - 1, 0}
	d := New(0, said)
	said[0] = 9
	for i, want := range []uint64{7, 1<<64 - 1, 0, 0xe220a8397b1dcdaf, 0x6e789e6aa1b965f4, 0x06c45d188009454f} {
		if d.Used() != i {
			t.Error("used", i, d.Used())
		}
		if got := d.Next(); got != want {
			t.Errorf("%d: %x", i, got)
		}
	}
	if New(0, nil).Next() != 0xe220a8397b1dcdaf {
		t.Error("nothing said")
	}
}

func TestSame(t *testing.T) {
	a, b := New(1<<63, []uint64{1, 2}), New(1<<63, []uint64{1, 2})
	seen := map[uint64]bool{}
	for i := range 10000 {
		n := a.Next()
		if n != b.Next() {
			t.Fatal("unlike", i)
		}
		if i >= 2 && seen[n] {
			t.Fatal("twice", i)
		}
		seen[n] = i >= 2
	}
}

func TestBelow(t *testing.T) {
	d := New(1, []uint64{1<<64 - 1, 10, 11})
	if d.Below(10) != 5 || d.Below(10) != 0 || d.Below(1) != 0 || d.Used() != 3 {
		t.Error("below")
	}
	for _, n := range []int{0, -1, -1 << 63} {
		if d.Below(n) != 0 || d.Used() != 3 {
			t.Error("drawn", n)
		}
	}
}

func TestTwo(t *testing.T) {
	for n := 2; n < 6; n++ {
		seen := map[[2]int]bool{}
		for i := range n {
			for j := range n - 1 {
				d := New(0, []uint64{uint64(i + 3*n), uint64(j + 5*(n-1))})
				a, b := d.Two(n)
				want := j
				if j >= i {
					want++
				}
				if a != i || b != want || d.Used() != 2 {
					t.Error(n, i, j, a, b)
				}
				seen[[2]int{a, b}] = true
			}
		}
		if len(seen) != n*(n-1) {
			t.Error("pairs", n, len(seen))
		}
	}
	d := New(0, []uint64{5})
	for _, n := range []int{1, 0, -3} {
		if a, b := d.Two(n); a != 0 || b != 0 || d.Used() != 0 {
			t.Error("drawn", n)
		}
	}
}

func TestHash(t *testing.T) {
	for _, s := range []string{"", "a", "7:1/0:2", "\xff\x00é"} {
		h := fnv.New64a()
		h.Write([]byte(s))
		if Hash(s) != h.Sum64() {
			t.Error(s)
		}
	}
	if Hash("a") != 0xaf63dc4c8601ec8c {
		t.Error("a")
	}
}

func TestMix(t *testing.T) {
	r := rand.New(rand.NewSource(1))
	for range 1000 {
		a, b, c := r.Uint64(), r.Uint64(), r.Uint64()
		if b != c && (Mix(a, b) == Mix(a, c) || Mix(b, a) == Mix(c, a)) {
			t.Error("alike", a, b, c)
		}
	}
	// The first number of a seed is the scramble of it and golden: of that less b's, Mix is the scramble of golden.
	a := uint64(12345)
	if b := New(a, nil).Next(); Mix(a, b) != New(0, nil).Next() || Mix(a, b^5) != New(5, nil).Next() {
		t.Error("mix")
	}
}
