package zones

import (
	"math/rand"
	"slices"
	"testing"

	"pursebearer/api"
)

func ends(zones ...int) []api.End {
	var l []api.End
	for i, z := range zones {
		l = append(l, api.End{ID: i + 1, Service: 1, Zone: z})
	}
	return l
}

func TestHome(t *testing.T) {
	l := ends(1, 1, 2, 1)
	for i, x := range []struct {
		well       []int
		zone, want int
	}{
		{nil, 1, 0}, {[]int{3}, 1, 0}, {[]int{1}, 1, 100}, {[]int{1, 3}, 1, 33}, {[]int{1, 2, 3}, 1, 66}, {[]int{1, 2, 3, 4}, 1, 100},
		{[]int{1, 3}, 2, 100}, {[]int{1, 3}, 3, 0}, {[]int{1, 1, 9, 3, 1}, 1, 33}, {[]int{1, 9}, 1, 100},
	} {
		if got := Home(l, x.well, x.zone); got != x.want {
			t.Error(i, got)
		}
	}
	if Home(nil, []int{1}, 1) != 0 {
		t.Error("none")
	}
}

func TestPanic(t *testing.T) {
	l := ends(1, 1, 2, 1)
	for i, x := range []struct {
		well    []int
		percent int
		want    bool
	}{
		{nil, 0, false}, {nil, 1, true}, {[]int{1}, 25, false}, {[]int{1}, 26, true}, {[]int{1, 1, 7}, 26, true}, {[]int{1, 2, 3, 4}, 100, false}, {[]int{4, 2, 3}, 100, true},
	} {
		if got := Panic(l, x.well, x.percent); got != x.want {
			t.Error(i, got)
		}
	}
	if Panic(nil, nil, 100) {
		t.Error("none")
	}
}

func TestAmong(t *testing.T) {
	l := []api.End{{ID: 9, Zone: 1}, {ID: 2, Zone: 1}, {ID: 5, Zone: 2}, {ID: 3, Zone: 2}}
	for i, x := range []struct {
		well                []int
		zone, percent, draw int
		want                []int
	}{
		{[]int{5, 9}, 1, 50, 49, []int{9}},
		{[]int{5, 9}, 1, 50, 50, []int{5}},
		{[]int{5, 9}, 1, 51, 0, []int{2, 3, 5, 9}},
		{[]int{9, 2, 3, 5}, 1, 0, 99, []int{2, 9}},
		{[]int{9, 2, 3, 5}, 1, 0, 100, []int{3, 5}},
		{[]int{3, 5}, 1, 0, 0, []int{3, 5}},
		{[]int{3, 5}, 3, 0, 0, []int{3, 5}},
		{nil, 1, 0, 0, nil},
		{nil, 1, 1, 0, []int{2, 3, 5, 9}},
	} {
		if got := Among(l, x.well, x.zone, x.percent, x.draw); !slices.Equal(got, x.want) {
			t.Error(i, got)
		}
	}
	if l[0].ID != 9 || len(Among(nil, nil, 1, 100, 0)) != 0 {
		t.Error("edges")
	}
}

func TestSomebody(t *testing.T) {
	r := rand.New(rand.NewSource(1))
	for range 2000 {
		var l []api.End
		var well []int
		for id := range 1 + r.Intn(8) {
			l = append(l, api.End{ID: id, Zone: 1 + r.Intn(3)})
			if r.Intn(2) == 0 {
				well = append(well, id)
			}
		}
		percent := r.Intn(101)
		home, stay := Home(l, well, 1), 0
		for draw := range 100 {
			got := Among(l, well, 1, percent, draw)
			if len(well) > 0 && len(got) == 0 {
				t.Fatal("nobody", l, well)
			}
			if Panic(l, well, percent) {
				continue
			}
			for _, id := range got {
				if !slices.Contains(well, id) {
					t.Fatal("not well", id)
				}
			}
			if len(got) > 0 && l[got[0]].Zone == 1 {
				stay++
			}
		}
		if !Panic(l, well, percent) && stay != home {
			t.Fatal("home", home, stay)
		}
		for id, e := range l {
			if e.Zone == 1 && !slices.Contains(well, id) && Home(l, append(slices.Clone(well), id), 1) < home {
				t.Fatal("less", l, well, id)
			}
		}
	}
}
