package choose

import (
	"math/rand"
	"slices"
	"testing"

	"pursebearer/api"
	"pursebearer/bound"
	"pursebearer/draw"
	"pursebearer/ring"
)

func TestLoad(t *testing.T) {
	l := []api.Load{{ID: 1, N: 5}, {ID: -2, N: -7}, {ID: 1, N: 9}}
	for id, want := range map[int]int{1: 5, -2: -7, 3: 0, 0: 0} {
		if got := Load(l, id); got != want {
			t.Error(id, got)
		}
	}
}

func TestByTwo(t *testing.T) {
	r := ring.New(nil, 1)
	some := []int{30, 10, 20}
	l := []api.Load{{ID: 30, N: 2}, {ID: 20, N: 2}, {ID: 30, N: 0}}
	for i := range 3 {
		for j := range 2 {
			d := draw.New(0, []uint64{uint64(i), uint64(j)})
			a, b := draw.New(0, []uint64{uint64(i), uint64(j)}).Two(3)
			want := some[a]
			if Load(l, some[b]) < Load(l, some[a]) {
				want = some[b]
			}
			if id, ok := Pick(api.ByTwo, r, some, 7, l, d); id != want || !ok || d.Used() != 2 {
				t.Error(i, j, id, ok)
			}
		}
	}
	d := draw.New(0, nil)
	for range 20 {
		if id, ok := Pick(api.ByTwo, r, []int{3, 4}, 7, []api.Load{{ID: 3, N: 5}, {ID: 4, N: 2}}, d); id != 4 || !ok {
			t.Error("two", id)
		}
	}
	d = draw.New(0, nil)
	if id, ok := Pick(api.ByTwo, r, nil, 7, l, d); id != 0 || ok {
		t.Error("none")
	}
	if id, ok := Pick(api.ByTwo, r, []int{8}, 7, l, d); id != 8 || !ok || d.Used() != 0 {
		t.Error("one")
	}
}

func TestByRing(t *testing.T) {
	rnd := rand.New(rand.NewSource(1))
	r := ring.New([]int{1, 2, 3, 4, 5}, 8)
	d := draw.New(0, nil)
	for range 500 {
		key := rnd.Uint64()
		some := rnd.Perm(8)[:rnd.Intn(6)]
		l := []api.Load{{ID: 1, N: rnd.Intn(4)}, {ID: 2, N: rnd.Intn(4)}, {ID: 3, N: rnd.Intn(1000)}}
		row := slices.DeleteFunc(r.Row(key), func(id int) bool { return !slices.Contains(some, id) })
		id, ok := Pick(api.ByRing, r, some, key, l, d)
		if ok != (len(row) > 0) || ok && id != row[0] || !ok && id != 0 {
			t.Fatal(id, ok, row)
		}
		id, ok = Pick(api.ByBound, r, some, key, l, d)
		want, is := bound.Pick(r, key, some, l, 125)
		if id != want || ok != is {
			t.Fatal("bound", id, ok)
		}
	}
	for _, kind := range []int{0, 4, -1} {
		if id, ok := Pick(kind, r, []int{1, 2}, 1, nil, d); id != 0 || ok {
			t.Error("kind", kind)
		}
	}
	if d.Used() != 0 {
		t.Error("drawn")
	}
}

func TestMostLoaded(t *testing.T) {
	r := ring.New(nil, 1)
	d := draw.New(9, nil)
	some := []int{4, 6, 5}
	l := []api.Load{{ID: 6, N: 8}, {ID: 4, N: 7}}
	seen := map[int]bool{}
	for range 200 {
		id, _ := Pick(api.ByTwo, r, some, 0, l, d)
		seen[id] = true
	}
	if seen[6] || !seen[4] || !seen[5] {
		t.Error(seen)
	}
}
