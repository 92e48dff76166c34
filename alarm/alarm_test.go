package alarm

import (
	"math/rand"
	"slices"
	"testing"
)

// model keeps alarms as the chapter tells them: in the row in which they were set.
type model [][2]int

func (m *model) stop(id int) bool {
	n := len(*m)
	*m = slices.DeleteFunc(*m, func(x [2]int) bool { return x[1] == id })
	return len(*m) < n
}

func (m *model) due(now int) []int {
	var hits [][2]int
	for _, x := range *m {
		if x[0] <= now {
			hits = append(hits, x)
		}
	}
	*m = slices.DeleteFunc(*m, func(x [2]int) bool { return x[0] <= now })
	slices.SortStableFunc(hits, func(a, b [2]int) int {
		if a[0] < b[0] {
			return -1
		}
		if a[0] > b[0] {
			return 1
		}
		return 0
	})
	var ids []int
	for _, x := range hits {
		ids = append(ids, x[1])
	}
	return ids
}

func TestExample(t *testing.T) {
	a := New()
	a.Set(5, 1)
	a.Set(3, 2)
	a.Set(5, 3)
	a.Set(3, 1)
	if got := a.Due(4); !slices.Equal(got, []int{2, 1}) {
		t.Error(got)
	}
	if n, ok := a.Next(); n != 5 || !ok || a.Len() != 1 {
		t.Error(n, ok)
	}
}

func TestNone(t *testing.T) {
	a := New()
	if n, ok := a.Next(); n != 0 || ok || a.Len() != 0 || a.Stop(0) || len(a.Due(1<<63-1)) != 0 {
		t.Error("not empty")
	}
	a.Set(-1<<63, -1<<63)
	if n, ok := a.Next(); n != -1<<63 || !ok || a.Len() != 1 || a.Stop(1) || !a.Stop(-1<<63) || a.Stop(-1<<63) {
		t.Error("edges")
	}
	if len(a.Due(1<<63-1)) != 0 {
		t.Error("stopped, and due")
	}
}

func TestModel(t *testing.T) {
	r := rand.New(rand.NewSource(1))
	for range 300 {
		a, m := New(), model{}
		for range 60 {
			switch r.Intn(5) {
			case 0:
				id := r.Intn(8)
				if a.Stop(id) != m.stop(id) {
					t.Fatal("stop")
				}
			case 1:
				now := r.Intn(12) - 6
				if got, want := a.Due(now), m.due(now); !slices.Equal(got, want) {
					t.Fatal(now, got, want)
				}
			default:
				at, id := r.Intn(10)-5, r.Intn(8)
				a.Set(at, id)
				m.stop(id)
				m = append(m, [2]int{at, id})
			}
			n, ok := a.Next()
			if a.Len() != len(m) || ok != (len(m) > 0) {
				t.Fatal("len")
			}
			for _, x := range m {
				if n > x[0] {
					t.Fatal("next")
				}
			}
		}
	}
}

func TestTold(t *testing.T) {
	r := rand.New(rand.NewSource(2))
	for range 200 {
		a, b := New(), New()
		for i := range 10 {
			at := r.Intn(6)
			a.Set(at, i)
			b.Set(at, i)
		}
		two := append(a.Due(2), a.Due(4)...)
		if one := b.Due(4); !slices.Equal(one, two) || len(b.Due(4)) != 0 {
			t.Fatal(one, two)
		}
	}
}
