package route

import (
	"math/rand"
	"slices"
	"testing"

	"pursebearer/api"
	"pursebearer/match"
)

func good(path string, exact bool, heads ...api.Head) api.Rule {
	return api.Rule{
		M:     api.Match{Path: path, Exact: exact, Heads: heads},
		Parts: []api.Part{{Service: 1, Weight: 1}},
		P:     api.Policy{Timeout: 1, Tries: 1, Budget: api.Budget{Of: 1}},
	}
}

func TestCheck(t *testing.T) {
	// Each change spoils the rule one step earlier, so that its error hides those of the changes ahead.
	r := good("/", false)
	r.Rate = 3
	if Check(r, 3) != api.OK || Check(r, 4) != api.OK {
		t.Error("rate")
	}
	for i, x := range []struct {
		spoil func()
		want  api.Errno
	}{
		{func() { r.Rate = 4 }, api.ErrRate},
		{func() { r.Rate = -1 }, api.ErrRate},
		{func() { r.P.Timeout = 0 }, api.ErrPolicy},
		{func() { r.Drop = []string{""} }, api.ErrHead},
		{func() { r.Drop = make([]string, 9) }, api.ErrLong},
		{func() { r.Prefix = "x" }, api.ErrPath},
		{func() { r.Inject.Ticks = 10001 }, api.ErrPolicy},
		{func() { r.Mirror = 11 }, api.ErrService},
		{func() { r.Parts[0].Weight = 0 }, api.ErrWeight},
		{func() { r.Parts[0].Service = 0 }, api.ErrService},
		{func() { r.M.Heads = []api.Head{{}} }, api.ErrHead},
		{func() { r.M.Path = "" }, api.ErrPath},
	} {
		x.spoil()
		if got := Check(r, 3); got != x.want {
			t.Error(i, got)
		}
	}
}

func TestPolicy(t *testing.T) {
	for i, x := range []struct {
		at   func(*api.Rule) *int
		low  int
		high int
		want api.Errno
	}{
		{func(r *api.Rule) *int { return &r.P.Timeout }, 1, 10000, api.ErrPolicy},
		{func(r *api.Rule) *int { return &r.P.Tries }, 1, 8, api.ErrPolicy},
		{func(r *api.Rule) *int { return &r.P.Back }, 0, 10000, api.ErrPolicy},
		{func(r *api.Rule) *int { return &r.P.Hedge }, 0, 10000, api.ErrPolicy},
		{func(r *api.Rule) *int { return &r.P.Budget.Per }, 0, 100, api.ErrPolicy},
		{func(r *api.Rule) *int { return &r.P.Budget.Of }, 1, 100, api.ErrPolicy},
		{func(r *api.Rule) *int { return &r.P.Budget.Burst }, 0, 100, api.ErrPolicy},
		{func(r *api.Rule) *int { return &r.Inject.Abort }, 0, 10000, api.ErrPolicy},
		{func(r *api.Rule) *int { return &r.Inject.Delay }, 0, 10000, api.ErrPolicy},
		{func(r *api.Rule) *int { return &r.Inject.Ticks }, 0, 10000, api.ErrPolicy},
		{func(r *api.Rule) *int { return &r.Mirror }, 0, 10, api.ErrService},
		{func(r *api.Rule) *int { return &r.Rate }, 0, 2, api.ErrRate},
	} {
		for n, want := range map[int]api.Errno{x.low: api.OK, x.high: api.OK, x.low - 1: x.want, x.high + 1: x.want} {
			r := good("/", false)
			*x.at(&r) = n
			if got := Check(r, 2); got != want {
				t.Error(i, n, got)
			}
		}
	}
}

func TestNew(t *testing.T) {
	l := make([]api.Rule, 21)
	if tab, e := New(l, 0); tab != nil || e != api.ErrLong {
		t.Error("long", e)
	}
	if tab, e := New([]api.Rule{good("/", false), good("", false), {}}, 0); tab != nil || e != api.ErrPath {
		t.Error("wrong", e)
	}
	for i := range l {
		l[i] = good("/", false)
	}
	if tab, e := New(l[:20], 0); e != api.OK || tab.Len() != 20 {
		t.Error("20", e)
	}
	tab, e := New(nil, -1)
	if e != api.OK || tab.Len() != 0 || len(tab.On("/")) != 0 {
		t.Error("none")
	}
	if n, ok := tab.Find("/", nil); n != 0 || ok {
		t.Error("found")
	}
}

func TestExample(t *testing.T) {
	tab, _ := New([]api.Rule{good("/", false), good("/a", false), good("/a", true)}, 0)
	for path, want := range map[string]int{"/a": 2, "/a/b": 1, "/b": 0, "/": 0} {
		if n, ok := tab.Find(path, nil); n != want || !ok {
			t.Error(path, n)
		}
	}
	if !slices.Equal(tab.On("/a"), []int{0, 1, 2}) || !slices.Equal(tab.On("/a/b"), []int{0, 1}) || len(tab.On("x")) != 0 {
		t.Error("on")
	}
	if n, ok := tab.Find("x", nil); n != 0 || ok {
		t.Error("no path")
	}
}

func TestOwn(t *testing.T) {
	r := good("/a", false, api.Head{Name: "x"})
	r.Set, r.Drop = []api.Head{{Name: "y", Value: "1"}}, []string{"z"}
	l := []api.Rule{r, good("/b", false)}
	tab, _ := New(l, 0)
	r.M.Heads[0].Name, r.Parts[0].Weight, r.Set[0].Name, r.Drop[0] = "q", 9, "q", "q"
	for range 2 {
		got := tab.Rule(0)
		if got.M.Heads[0].Name != "x" || got.Parts[0].Weight != 1 || got.Set[0].Name != "y" || got.Drop[0] != "z" {
			t.Error("shared", got)
		}
		got.M.Heads[0].Name, got.Parts[0].Weight, got.Set[0].Name, got.Drop[0] = "q", 9, "q", "q"
	}
	on := tab.On("/b")
	on[0] = 7
	if tab.On("/b")[0] != 1 {
		t.Error("shared")
	}
	for _, n := range []int{-1, 2} {
		if got := tab.Rule(n); got.M.Path != "" || got.P.Tries != 0 || len(got.Parts) != 0 {
			t.Error(n, got)
		}
	}
}

func TestPrecedence(t *testing.T) {
	r := rand.New(rand.NewSource(1))
	paths := []string{"/", "/a", "/a/b", "/b"}
	hs := []api.Head{{Name: "x"}, {Name: "y", Value: "1"}}
	for range 500 {
		var l []api.Rule
		for range r.Intn(8) {
			l = append(l, good(paths[r.Intn(4)], r.Intn(2) == 0, hs[:r.Intn(3)]...))
		}
		tab, e := New(l, 0)
		if e != api.OK {
			t.Fatal(e)
		}
		path, h := paths[r.Intn(4)], hs[:r.Intn(3)]
		want, found := 0, false
		for i, x := range l {
			if match.Fits(x.M, path, h) && (!found || match.Cmp(x.M, l[want].M) < 0) {
				want, found = i, true
			}
		}
		if n, ok := tab.Find(path, h); n != want || ok != found || ok && !slices.Contains(tab.On(path), n) {
			t.Fatal(l, path, h, n, want)
		}
	}
}
