package ring

import (
	"math/rand"
	"slices"
	"testing"

	"pursebearer/draw"
)

// row tells by the chapter's words alone how endpoints stand behind a key.
func row(ids []int, points int, key uint64) []int {
	far := func(id int) uint64 {
		least := uint64(1<<64 - 1)
		for k := range points {
			least = min(least, draw.Mix(draw.Mix(0, uint64(id)), uint64(k))-key)
		}
		return least
	}
	out := slices.Clone(ids)
	slices.Sort(out)
	out = slices.Compact(out)
	slices.SortStableFunc(out, func(a, b int) int {
		if far(a) < far(b) {
			return -1
		}
		if far(a) > far(b) {
			return 1
		}
		return 0
	})
	return out
}

func TestRow(t *testing.T) {
	r := rand.New(rand.NewSource(1))
	for range 300 {
		var ids []int
		for range r.Intn(12) {
			ids = append(ids, r.Intn(15))
		}
		if r.Intn(9) == 0 {
			ids = append(ids, 1<<31-1)
		}
		points := 1 + r.Intn(5)
		ring := New(ids, points)
		for range 5 {
			key := r.Uint64()
			if len(ids) > 0 && r.Intn(2) == 0 { // just a point, or just behind one
				key = draw.Mix(draw.Mix(0, uint64(ids[0])), uint64(r.Intn(points))) + uint64(r.Intn(2))
			}
			want := row(ids, points, key)
			got := ring.Row(key)
			if !slices.Equal(got, want) || ring.Len() != len(want) {
				t.Fatal(ids, points, key, got, want)
			}
			id, ok := ring.Of(key)
			if ok != (len(want) > 0) || ok && id != want[0] || !ok && id != 0 {
				t.Fatal("of", id, ok)
			}
		}
	}
}

func TestFew(t *testing.T) {
	none, one := New(nil, 64), New([]int{5, 5}, 64)
	for _, key := range []uint64{0, 1 << 63, 1<<64 - 1} {
		if id, ok := none.Of(key); id != 0 || ok || len(none.Row(key)) != 0 {
			t.Error("none", key)
		}
		if id, ok := one.Of(key); id != 5 || !ok || !slices.Equal(one.Row(key), []int{5}) {
			t.Error("one", key)
		}
	}
	if none.Len() != 0 || one.Len() != 1 {
		t.Error("len")
	}
}

func TestLittleMoves(t *testing.T) {
	r := rand.New(rand.NewSource(2))
	ids := []int{0, 3, 7, 12, 30, 31}
	all := New(ids, 16)
	turned := New([]int{31, 30, 12, 3, 7, 0, 0, 31}, 16)
	for i, gone := range ids {
		less := New(slices.Delete(slices.Clone(ids), i, i+1), 16)
		for range 300 {
			key := r.Uint64()
			row := all.Row(key)
			if !slices.Equal(row, turned.Row(key)) {
				t.Fatal("the row of ids", key)
			}
			left := slices.DeleteFunc(row, func(id int) bool { return id == gone })
			if !slices.Equal(less.Row(key), left) {
				t.Fatal(gone, key)
			}
		}
	}
	for k := range 16 {
		if id, _ := all.Of(draw.Mix(draw.Mix(0, 12), uint64(k))); id != 12 {
			t.Error("point", k, id)
		}
	}
}
