package graph

import (
	"math/rand"
	"slices"
	"strconv"
	"testing"

	"pursebearer/api"
)

func rule(path string, weights ...int) api.Rule {
	r := api.Rule{M: api.Match{Path: path}, P: api.Policy{Timeout: 1000, Tries: 3, Budget: api.Budget{Of: 1}}}
	for i := 0; i < len(weights); i += 2 {
		r.Parts = append(r.Parts, api.Part{Service: weights[i], Weight: weights[i+1]})
	}
	return r
}

// conf has services 1, 2, .. that call what is told, each with an endpoint.
func conf(kids ...[]string) api.Conf {
	c := api.Conf{
		Watch: api.Watch{Errors: 2, Window: 100, Share: 50, Base: 10, Top: 100},
		Low:   10, High: 10, Wait: 10, Hop: 2, Life: 1000, Purse: 4, Horizon: 1000,
	}
	for i, l := range kids {
		c.Services = append(c.Services, api.Service{ID: i + 1, Kids: l, Work: 3, Slots: 1, Queue: 20, Balance: api.ByTwo})
		c.Ends = append(c.Ends, api.End{ID: i + 1, Service: i + 1, Zone: 1})
	}
	return c
}

func TestExample(t *testing.T) {
	c := conf(nil)
	c.Rules = []api.Rule{rule("/", 1, 1)}
	if len(Kids(c, 1)) != 0 || Walks(c, 1, 1, 1) != 1 || Factor(c, 1) != 5 || Factor(c, 2) != 0 || Factor(c, 0) != 0 || Depth(c) != 501 {
		t.Error("example")
	}
	if n, ok := Alone(c, "/"); n != 9 || !ok {
		t.Error(n, ok)
	}
	if n, ok := Alone(c, "/any/path"); n != 9 || !ok {
		t.Error(n, ok)
	}
	if Kids(c, 7) != nil || Walks(c, 7, 7, 3) != 1 || Walks(c, 7, 1, 3) != 0 {
		t.Error("not there")
	}
	c.Services = nil
	if n, ok := Alone(c, "/"); n != 0 || ok || Factor(c, 1) != 0 {
		t.Error("wrong configuration")
	}
}

// tree: 1 calls /b twice and /c; /b goes to 2 or 3, and is copied to 4; /c goes to 3; 3 calls /d, which is 4.
func tree() api.Conf {
	c := conf([]string{"/b", "/b", "/c"}, nil, []string{"/d"}, nil)
	c.Rules = []api.Rule{rule("/", 1, 1), rule("/b", 3, 2, 2, 1, 1, 0), rule("/c", 3, 1), rule("/d", 4, 1)}
	for i := range c.Rules {
		c.Rules[i].M.Exact = true
	}
	c.Rules[1].Mirror = 4
	return c
}

func TestKids(t *testing.T) {
	c := tree()
	got := Kids(c, 1)
	want := [][]int{{2, 3}, {2, 3}, {3}, {4}, {4}}
	if !slices.EqualFunc(got, want, slices.Equal[[]int]) {
		t.Error(got)
	}
	got[0][0] = 9
	if Kids(c, 1)[0][0] != 2 || Kids(c, 1)[1][0] != 2 {
		t.Error("shared")
	}
	c.Services[0].Kids = []string{"/none", "/b"}
	if got := Kids(c, 1); !slices.EqualFunc(got, [][]int{nil, {2, 3}, {4}}, slices.Equal[[]int]) {
		t.Error(got)
	}
}

func TestWalks(t *testing.T) {
	c := tree()
	for i, x := range [][4]int{{1, 1, 5, 1}, {1, 2, 0, 0}, {1, 2, 1, 2}, {1, 3, 1, 3}, {1, 4, 1, 2}, {1, 4, 2, 5}, {1, 4, 9, 5}, {3, 4, 1, 1}, {4, 1, 9, 0}} {
		if got := Walks(c, x[0], x[1], x[2]); got != x[3] {
			t.Error(i, x, got)
		}
	}
	if Factor(c, 4) != 5*6 || Factor(c, 2) != 5*2 || Factor(c, 1) != 5 {
		t.Error("factor", Factor(c, 4), Factor(c, 2))
	}
	for from := 1; from < 5; from++ {
		for to := 1; to < 5; to++ { // no service is within itself: four others are enough
			if Walks(c, from, to, 4) != Walks(c, from, to, 10001) {
				t.Error(from, to)
			}
		}
	}
	c.Purse = 9
	if Factor(c, 4) != 10*6 {
		t.Error("purse")
	}
	c.Services[3].Kids = []string{"/", "/", "/", "/"}
	if Walks(c, 1, 1, 10001) != api.Most || Factor(c, 1) != api.Most {
		t.Error("most")
	}
	if Walks(c, 1, 1, 3) != 1+5*4 || Walks(c, 1, 1, 2) != 1+2*4 { // by /d of 3, and by the copies
		t.Error(Walks(c, 1, 1, 3), Walks(c, 1, 1, 2))
	}
}

func TestDepth(t *testing.T) {
	c := conf(nil)
	for _, x := range [][3]int{{1000, 2, 501}, {99, 100, 1}, {100, 100, 2}, {10000, 1, 10001}} {
		c.Life, c.Hop = x[0], x[1]
		if got := Depth(c); got != x[2] {
			t.Error(x, got)
		}
	}
}

func TestAlone(t *testing.T) {
	c := tree()
	c.Services[2].Work = 10
	c.Rules[2].Inject = api.Inject{Delay: 3, Ticks: 7}
	c.Rules[1].Inject = api.Inject{Ticks: 50}
	// 4: 9; /d 9; 3: 16 + 9; 2: 9; /b: 25 + 9; /c: 25 + 7; 1: 9 + 34 + 34 + 32.
	const time = 109
	if n, ok := Alone(c, "/"); n != time || !ok {
		t.Error(n, ok)
	}
	if n, ok := Alone(c, "/c"); n != 32 || !ok {
		t.Error(n, ok)
	}
	for i, x := range []struct {
		spoil func(*api.Conf)
		ok    bool
	}{
		{func(c *api.Conf) { c.Life = time }, true},
		{func(c *api.Conf) { c.Life = time - 1 }, false},
		{func(c *api.Conf) { c.Rules[3].P.Timeout = time }, true},
		{func(c *api.Conf) { c.Rules[3].P.Timeout = time - 1 }, false},
		{func(c *api.Conf) { c.Rules[3].Inject.Abort = 1 }, false},
		{func(c *api.Conf) { c.Rules[0].M.Heads = []api.Head{{Name: "h"}} }, false},
		{func(c *api.Conf) { c.Rates = []api.Rate{{Limit: 1, Window: 1, Slice: 1}}; c.Rules[1].Rate = 1 }, false},
		{func(c *api.Conf) { c.Ends = c.Ends[:3] }, false},
		{func(c *api.Conf) { c.Ends = c.Ends[1:] }, false},
		{func(c *api.Conf) { c.Services[0].Kids[0] = "/none" }, false},
		{func(c *api.Conf) { c.Services[3].Kids = []string{"/c"} }, false},
		{func(c *api.Conf) { c.Services[3].Queue = 5 }, true},
		{func(c *api.Conf) { c.Services[3].Queue = 4 }, false},
		{func(c *api.Conf) { c.Low, c.Wait = 3, 2 }, true},
		{func(c *api.Conf) { c.Low, c.Wait = 2, 2 }, false},
		{func(c *api.Conf) { c.Rules = append(c.Rules, rule("/x", 1, 1)); c.Rules[4].Inject.Abort = 1 }, true},
		{func(c *api.Conf) {
			c.Services = append(c.Services, api.Service{ID: 5, Kids: []string{"/e"}, Work: 1, Slots: 1, Queue: 1, Balance: 1})
		}, true},
	} {
		c := tree()
		c.Services[2].Work = 10
		c.Rules[2].Inject = api.Inject{Delay: 3, Ticks: 7}
		x.spoil(&c)
		if n, ok := Alone(c, "/"); ok != x.ok || ok && n != time || !ok && n != 0 {
			t.Error(i, n, ok)
		}
	}
	c.Rules[2].Inject = api.Inject{Delay: 1, Ticks: 9}
	if n, ok := Alone(c, "/c"); n != 34 || !ok {
		t.Error(n, ok)
	}
	for _, path := range []string{"/none", "/b/c"} {
		if n, ok := Alone(c, path); n != 0 || ok {
			t.Error(path, n)
		}
	}
}

// deal tells how many calls a service gets, where each call is dealt by chance.
func deal(r *rand.Rand, c api.Conf, from, to, depth int) int {
	n := 0
	if from == to {
		n++
	}
	if depth > 0 {
		for _, l := range Kids(c, from) {
			if len(l) > 0 {
				n += deal(r, c, l[r.Intn(len(l))], to, depth-1)
			}
		}
	}
	return n
}

func TestDealt(t *testing.T) {
	r := rand.New(rand.NewSource(1))
	for range 60 {
		n := 2 + r.Intn(3)
		kids := make([][]string, n)
		c := conf(kids...)
		for i := range n {
			for range r.Intn(3) {
				c.Services[i].Kids = append(c.Services[i].Kids, "/"+strconv.Itoa(1+r.Intn(n)))
			}
			x := rule("/"+strconv.Itoa(i+1), 1+r.Intn(n), 1)
			if other := 1 + r.Intn(n); other != x.Parts[0].Service {
				x.Parts = append(x.Parts, api.Part{Service: other, Weight: 1})
			}
			if r.Intn(3) == 0 {
				x.Mirror = 1 + r.Intn(n)
			}
			c.Rules = append(c.Rules, x)
		}
		to, last := 1+r.Intn(n), 0
		for depth := range 5 {
			most := Walks(c, 1, to, depth)
			if most < last {
				t.Fatal("less")
			}
			last = most
			for range 10 {
				if got := deal(r, c, 1, to, depth); got > most {
					t.Fatal("more", got, most)
				}
			}
		}
		for i := range n {
			path := "/" + strconv.Itoa(i+1)
			if time, ok := Alone(c, path); ok {
				if time < 2*c.Hop+3 {
					t.Fatal("alone", time)
				}
				more := c
				more.Life = 10000
				more.Horizon = 10000
				if again, ok := Alone(more, path); again != time || !ok {
					t.Fatal("longer", again)
				}
			}
		}
	}
}
