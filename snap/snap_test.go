package snap

import (
	"slices"
	"testing"

	"pursebearer/api"
	"pursebearer/ring"
)

func conf() api.Conf {
	rule := api.Rule{
		M:     api.Match{Path: "/", Heads: []api.Head{{Name: "h"}}},
		Parts: []api.Part{{Service: 1, Weight: 1}, {Service: 2}},
		Set:   []api.Head{{Name: "x", Value: "1"}},
		Drop:  []string{"y"},
		P:     api.Policy{Timeout: 40, Tries: 3, Back: 2, Budget: api.Budget{Per: 1, Of: 1, Burst: 1}},
		Rate:  1, Mirror: 2,
	}
	return api.Conf{
		Services: []api.Service{{ID: 1, Kids: []string{"/b", "/c"}, Work: 3, Slots: 1, Queue: 5, Balance: api.ByTwo}, {ID: 2, Work: 4, Slots: 1, Queue: 5, Balance: api.ByBound}},
		Ends:     []api.End{{ID: 3, Service: 1, Zone: 1}, {ID: 40, Service: 2, Zone: 4}, {ID: 2, Service: 1, Zone: 2}},
		Rules:    []api.Rule{rule},
		Rates:    []api.Rate{{Limit: 5, Window: 10, Slice: 2}},
		Watch:    api.Watch{Errors: 2, Window: 100, Share: 50, Base: 10, Top: 100},
		Panic:    50, Low: 1, High: 10, Wait: 5, Hop: 2, Life: 100, Purse: 8, Horizon: 100, Sample: 100,
	}
}

func TestOrder(t *testing.T) {
	// Each change's error hides those of the changes ahead.
	c := conf()
	if Check(c) != api.OK || Check(api.Conf{}) != api.ErrRange {
		t.Error("ordinary")
	}
	for i, x := range []struct {
		spoil func()
		want  api.Errno
	}{
		{func() { c.Sample = 101 }, api.ErrRange},
		{func() { c.Watch.Share = 101 }, api.ErrRange},
		{func() { c.Rates[0].Slice = 6 }, api.ErrRate},
		{func() { c.Rules[0].Mirror = 3 }, api.ErrService},
		{func() { c.Rules[0].Rate = 2 }, api.ErrRate},
		{func() { c.Rules[0].M.Path = "" }, api.ErrPath},
		{func() { c.Ends[0].Zone = 5 }, api.ErrEnd},
		{func() { c.Services[0].Work = 0 }, api.ErrService},
		{func() { c.Rates = make([]api.Rate, 5) }, api.ErrLong},
	} {
		x.spoil()
		if got := Check(c); got != x.want {
			t.Error(i, got)
		}
		if s, e := New(1, c); s != nil || e != x.want {
			t.Error("new", i, e)
		}
	}
}

func TestLong(t *testing.T) {
	c := conf()
	for id := len(c.Services) + 1; id <= 10; id++ {
		c.Services = append(c.Services, api.Service{ID: id, Work: 1, Slots: 1, Queue: 1, Balance: api.ByRing})
	}
	c.Ends = nil
	for id := range 40 {
		c.Ends = append(c.Ends, api.End{ID: id + 1, Service: 10, Zone: 1})
	}
	for range 3 {
		c.Rates = append(c.Rates, c.Rates[0])
	}
	for range 19 {
		c.Rules = append(c.Rules, c.Rules[0])
	}
	if Check(c) != api.OK {
		t.Error("most", Check(c))
	}
	more := c
	more.Services = append(slices.Clone(c.Services), api.Service{})
	if Check(more) != api.ErrLong {
		t.Error("services")
	}
	more = c
	more.Ends = append(slices.Clone(c.Ends), api.End{})
	if Check(more) != api.ErrLong {
		t.Error("ends")
	}
	more = c
	more.Rules = append(slices.Clone(c.Rules), api.Rule{})
	if Check(more) != api.ErrLong {
		t.Error("rules")
	}
}

func TestBounds(t *testing.T) {
	for i, x := range []struct {
		at        func(*api.Conf) *int
		low, high int
		want      api.Errno
	}{
		{func(c *api.Conf) *int { return &c.Services[0].Work }, 1, 100, api.ErrService},
		{func(c *api.Conf) *int { return &c.Services[0].Slots }, 1, 20, api.ErrService},
		{func(c *api.Conf) *int { return &c.Services[0].Queue }, 1, 50, api.ErrService},
		{func(c *api.Conf) *int { return &c.Services[0].Balance }, api.ByTwo, api.ByBound, api.ErrService},
		{func(c *api.Conf) *int { return &c.Services[0].Warm }, 0, 100, api.ErrService},
		{func(c *api.Conf) *int { return &c.Ends[1].ID }, 1, 1, api.ErrEnd},
		{func(c *api.Conf) *int { return &c.Ends[0].Service }, 1, 2, api.ErrEnd},
		{func(c *api.Conf) *int { return &c.Ends[0].Zone }, 1, 4, api.ErrEnd},
		{func(c *api.Conf) *int { return &c.Rates[0].Window }, 1, 1000, api.ErrRate},
		{func(c *api.Conf) *int { c.Rates[0].Slice = 1; return &c.Rates[0].Limit }, 1, 1000, api.ErrRate},
		{func(c *api.Conf) *int { return &c.Rates[0].Slice }, 1, 5, api.ErrRate},
		{func(c *api.Conf) *int { return &c.Watch.Base }, 1, 100, api.ErrRange},
		{func(c *api.Conf) *int { return &c.Panic }, 0, 100, api.ErrRange},
		{func(c *api.Conf) *int { return &c.Low }, 1, 10, api.ErrRange},
		{func(c *api.Conf) *int { return &c.High }, 1, 100, api.ErrRange},
		{func(c *api.Conf) *int { return &c.Wait }, 0, 50, api.ErrRange},
		{func(c *api.Conf) *int { return &c.Hop }, 1, 100, api.ErrRange},
		{func(c *api.Conf) *int { return &c.Life }, 1, 100, api.ErrRange},
		{func(c *api.Conf) *int { return &c.Purse }, 0, 64, api.ErrRange},
		{func(c *api.Conf) *int { return &c.Horizon }, 100, 40000, api.ErrRange},
		{func(c *api.Conf) *int { return &c.Sample }, 0, 100, api.ErrRange},
	} {
		for n, want := range map[int]api.Errno{x.low: api.OK, x.high: api.OK, x.low - 1: x.want, x.high + 1: x.want} {
			c := conf()
			*x.at(&c) = n
			if got := Check(c); got != want {
				t.Error(i, n, got)
			}
		}
	}
	c := conf()
	c.Ends[1].ID = 41
	if Check(c) != api.ErrEnd {
		t.Error("end")
	}
	c = conf()
	c.Horizon, c.Life = 40000, 10001
	if Check(c) != api.ErrRange {
		t.Error("life")
	}
}

func TestServices(t *testing.T) {
	for i, spoil := range []func(*api.Conf){
		func(c *api.Conf) { c.Services[1].ID = 1 },
		func(c *api.Conf) { c.Services[1].ID = 11; c.Ends = nil },
		func(c *api.Conf) { c.Services[0].ID = 0 },
		func(c *api.Conf) { c.Services[0].Kids = []string{"/", "/", "/", "/", "/"} },
		func(c *api.Conf) { c.Services[0].Kids[1] = "/c/" },
		func(c *api.Conf) { c.Rules[0].Parts[1].Service = 3 },
	} {
		c := conf()
		spoil(&c)
		if got := Check(c); got != api.ErrService {
			t.Error(i, got)
		}
	}
}

func TestFewServices(t *testing.T) {
	c := conf()
	c.Services[0].Kids = []string{"/", "/", "/", "/"}
	if Check(c) != api.OK {
		t.Error("four kids")
	}
	c.Services, c.Ends = c.Services[1:], c.Ends[1:2]
	c.Rules[0].Parts = []api.Part{{Service: 2, Weight: 1}}
	if Check(c) != api.OK {
		t.Error("2 alone", Check(c))
	}
	if c.Rules[0].Mirror = 1; Check(c) != api.ErrService {
		t.Error("1 is not there")
	}
	if c.Rules[0].Mirror = 0; Check(c) != api.OK {
		t.Error("no copies")
	}
}

func TestSnap(t *testing.T) {
	c := conf()
	s, e := New(-7, c)
	if e != api.OK || s.Version != -7 || s.T.Len() != 1 {
		t.Fatal(e)
	}
	c.Services[0].Kids[0], c.Services[0].Work, c.Ends[0].ID, c.Rates[0].Limit = "/q", 9, 9, 9
	r := c.Rules[0]
	r.M.Heads[0].Name, r.Parts[0].Weight, r.Set[0].Name, r.Drop[0] = "q", 9, "q", "q"
	x, ok := s.Service(1)
	if !ok || !slices.Equal(x.Kids, []string{"/b", "/c"}) || x.Work != 3 {
		t.Error("shared", x)
	}
	x.Kids[0] = "/z"
	if x, _ := s.Service(1); x.Kids[0] != "/b" {
		t.Error("shared")
	}
	if g := s.C.Rules[0]; g.M.Heads[0].Name != "h" || g.Parts[0].Weight != 1 || g.Set[0].Name != "x" || g.Drop[0] != "y" || s.C.Rates[0].Limit != 5 || s.C.Ends[0].ID != 3 {
		t.Error("shared", g)
	}
	if x, ok := s.Service(3); ok || x.ID != 0 || len(x.Kids) != 0 {
		t.Error("not there")
	}
	ends := s.Ends(1)
	if !slices.Equal(ends, []api.End{{ID: 2, Service: 1, Zone: 2}, {ID: 3, Service: 1, Zone: 1}}) || len(s.Ends(3)) != 0 {
		t.Error(ends)
	}
	ends[0].ID = 7
	if s.Ends(1)[0].ID != 2 {
		t.Error("shared")
	}
	want := ring.New([]int{2, 3}, 16)
	for key := range uint64(200) {
		if !slices.Equal(s.Ring(1).Row(key<<56), want.Row(key<<56)) {
			t.Error("ring")
		}
	}
	if s.Ring(1) != s.Ring(1) || s.Ring(5) != s.Ring(5) || s.Ring(5).Len() != 0 || s.Ring(2).Len() != 1 {
		t.Error("ring")
	}
}

func TestDiff(t *testing.T) {
	c := conf()
	a, _ := New(1, c)
	c.Ends = []api.End{{ID: 5, Service: 1, Zone: 1}, {ID: 2, Service: 1, Zone: 2}, {ID: 40, Service: 1, Zone: 4}, {ID: 1, Service: 2, Zone: 1}}
	b, _ := New(2, c)
	came, went := Diff(a, b)
	if !slices.Equal(came, []int{1, 5, 40}) || !slices.Equal(went, []int{3, 40}) {
		t.Error(came, went)
	}
	back, forth := Diff(b, a)
	if !slices.Equal(back, went) || !slices.Equal(forth, came) {
		t.Error("turned round")
	}
	if came, went := Diff(a, a); len(came)+len(went) != 0 {
		t.Error("one and itself")
	}
}
