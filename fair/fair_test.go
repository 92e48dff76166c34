package fair

import (
	"math/rand"
	"slices"
	"testing"

	"pursebearer/api"
)

// model is a queue by the chapter's words: what waits, as it was put, and of each priority the flow that was taken last.
type model struct {
	most int
	l    []api.Item
	last [4]int // -1: none
}

func (m *model) remove(id int) {
	m.l = slices.DeleteFunc(m.l, func(x api.Item) bool { return x.ID == id })
}

func (m *model) of(prio int) map[int][]api.Item {
	flows := map[int][]api.Item{}
	for _, x := range m.l {
		if x.Prio == prio {
			flows[x.Flow] = append(flows[x.Flow], x)
		}
	}
	return flows
}

func (m *model) put(x api.Item) (api.Item, bool) {
	m.l = append(m.l, x)
	if len(m.l) <= m.most {
		return api.Item{}, false
	}
	prio := 3
	for _, y := range m.l {
		prio = min(prio, y.Prio)
	}
	flows := m.of(prio)
	best := -1
	for f, l := range flows {
		if best < 0 || len(l) > len(flows[best]) || len(l) == len(flows[best]) && f > best {
			best = f
		}
	}
	shed := flows[best][len(flows[best])-1]
	m.remove(shed.ID)
	return shed, true
}

func (m *model) take() (api.Item, bool) {
	if len(m.l) == 0 {
		return api.Item{}, false
	}
	prio := 0
	for _, y := range m.l {
		prio = max(prio, y.Prio)
	}
	flows := m.of(prio)
	least, above := -1, -1
	for f := range flows {
		if least < 0 || f < least {
			least = f
		}
		if f > m.last[prio] && (above < 0 || f < above) {
			above = f
		}
	}
	if m.last[prio] < 0 || above < 0 {
		above = least
	}
	x := flows[above][0]
	m.last[prio] = above
	m.remove(x.ID)
	return x, true
}

func TestModel(t *testing.T) {
	r := rand.New(rand.NewSource(1))
	for range 500 {
		m := &model{most: r.Intn(9), last: [4]int{-1, -1, -1, -1}}
		q := New(m.most)
		for id := range 60 {
			switch r.Intn(6) {
			case 0, 1:
				x, ok := q.Take()
				if want, is := m.take(); x != want || ok != is {
					t.Fatal("take", x, want)
				}
			case 2:
				gone := r.Intn(id + 1)
				had := len(m.l)
				m.remove(gone)
				if q.Drop(gone) != (len(m.l) < had) {
					t.Fatal("drop")
				}
			default:
				x := api.Item{ID: id, Prio: r.Intn(4), Flow: r.Intn(3)}
				shed, is := q.Put(x)
				if want, ok := m.put(x); shed != want || is != ok {
					t.Fatal("put", shed, want)
				}
			}
			if q.Len() != len(m.l) || q.Len() > m.most {
				t.Fatal("len")
			}
			all := q.All()
			again := &model{most: m.most, l: slices.Clone(m.l), last: m.last}
			for _, x := range all {
				if want, _ := again.take(); x != want {
					t.Fatal("all", x, want)
				}
			}
			if len(all) != len(m.l) {
				t.Fatal("all")
			}
		}
	}
}

func TestExample(t *testing.T) {
	q := New(5)
	for _, x := range []api.Item{{ID: 10, Flow: 1}, {ID: 11, Flow: 1}, {ID: 20, Flow: 2}} {
		q.Put(x)
	}
	for _, want := range []int{10, 20, 11} {
		if x, ok := q.Take(); x.ID != want || !ok {
			t.Error(x, want)
		}
	}
	if x, ok := q.Take(); x != (api.Item{}) || ok {
		t.Error("none waits")
	}
}

func TestShed(t *testing.T) {
	q := New(2)
	q.Put(api.Item{ID: 1, Prio: 1, Flow: 5})
	q.Put(api.Item{ID: 2, Prio: 1, Flow: 5})
	if x, is := q.Put(api.Item{ID: 3, Prio: 1, Flow: 9}); x.ID != 2 || !is {
		t.Error("the longest flow's newest", x)
	}
	if x, is := q.Put(api.Item{ID: 4, Prio: 0, Flow: 9}); x.ID != 4 || !is {
		t.Error("the least priority", x)
	}
	if x, is := q.Put(api.Item{ID: 5, Prio: 3, Flow: 9}); x.ID != 3 || !is {
		t.Error("as many: the greatest flow", x)
	}
	if x, is := New(0).Put(api.Item{ID: 6, Prio: 2, Flow: 0}); x != (api.Item{ID: 6, Prio: 2}) || !is {
		t.Error("no room at all", x)
	}
}
