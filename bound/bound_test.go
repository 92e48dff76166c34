package bound

import (
	"math/rand"
	"slices"
	"testing"

	"pursebearer/api"
	"pursebearer/ring"
)

func TestCap(t *testing.T) {
	for _, x := range [][4]int{{7, 4, 125, 3}, {0, 1, 100, 1}, {3, 4, 100, 1}, {4, 4, 100, 2}, {0, 1000, 100, 1}, {1<<31 - 1, 1, 1000, 10 << 31}, {1<<31 - 1, 1000, 100, 2147484}} {
		if got := Cap(x[0], x[1], x[2]); got != x[3] {
			t.Error(x, got)
		}
	}
}

func TestPick(t *testing.T) {
	r := ring.New([]int{1, 2, 3}, 8)
	row := r.Row(99)
	full := []api.Load{{ID: row[0], N: 5}, {ID: 9, N: 1000}}
	for i, x := range []struct {
		some    []int
		l       []api.Load
		percent int
		want    int
		ok      bool
	}{
		{nil, nil, 100, 0, false},
		{[]int{9, 8}, nil, 100, 0, false},
		{[]int{3, 1, 2}, nil, 100, row[0], true},
		{[]int{9, 2, 1, 3}, full, 100, row[1], true},
		{[]int{row[0], row[1]}, full, 125, row[1], true},
		{[]int{row[0], row[2]}, full, 125, row[2], true},
		{[]int{row[0]}, full, 100, row[0], true},
		{[]int{1, 2, 3}, full, 1000, row[0], true},                                                     // 6 by 3, ten times
		{[]int{row[0], row[1], 9}, []api.Load{{ID: row[0], N: 2}}, 125, row[1], true},                  // 3 by 2, rounded up: 2
		{[]int{row[0], row[1]}, []api.Load{{ID: row[1], N: 1}, {ID: row[0], N: 2}}, 100, row[1], true}, // 2 each
	} {
		if id, ok := Pick(r, 99, x.some, x.l, x.percent); id != x.want || ok != x.ok {
			t.Error(i, id, ok)
		}
	}
	if id, ok := Pick(ring.New(nil, 1), 0, []int{1}, nil, 100); id != 0 || ok {
		t.Error("no endpoints")
	}
}

func TestDealt(t *testing.T) {
	r := rand.New(rand.NewSource(1))
	for range 100 {
		ids := r.Perm(10)[:1+r.Intn(9)]
		g := ring.New(ids, 4)
		percent := 100 + r.Intn(100)
		loads := map[int]int{}
		for all := range 60 {
			var l []api.Load
			for _, id := range r.Perm(10) {
				if loads[id] > 0 {
					l = append(l, api.Load{ID: id, N: loads[id]})
				}
			}
			key := uint64(r.Intn(3))
			id, ok := Pick(g, key, ids, l, percent)
			if !ok || !slices.Contains(ids, id) {
				t.Fatal("nobody")
			}
			if loads[id]++; loads[id] > Cap(all, len(ids), percent) {
				t.Fatal("too much", loads, id)
			}
			if id, _ := Pick(g, key, ids, nil, percent); id != g.Row(key)[0] {
				t.Fatal("without loads")
			}
		}
	}
}
