package collect

import (
	"math/rand"
	"slices"
	"strconv"
	"testing"

	"pursebearer/api"
	"pursebearer/ctx"
)

func TestExample(t *testing.T) {
	c := New()
	s := api.Span{Name: "7:1/0:2", Service: 2, From: 12, To: 16, Well: true}
	if !c.Take(s) || c.Whole(7) || !c.Whole(8) || len(c.Tree(8)) != 0 {
		t.Error("one")
	}
	if got := Print(c.Tree(7)); got != "7:1 ?\n 7:1/0:2 2 12-16\n" {
		t.Error(got)
	}
	if s.Service = 9; c.Take(s) || c.Tree(7)[1].S.Service != 2 {
		t.Error("twice")
	}
	if !c.Take(api.Span{Name: "7:1", Service: 1, From: 7, To: -20}) || !c.Whole(7) {
		t.Error("whole")
	}
	if got := Print(c.Tree(7)); got != "7:1 1 7--20 !\n 7:1/0:2 2 12-16\n" {
		t.Error(got)
	}
	got := c.Tree(7)
	got[0].Name = "x"
	if c.Tree(7)[0].Name != "7:1" || Print(nil) != "" {
		t.Error("shared")
	}
	if n := c.Tree(7)[0]; n != (Node{Name: "7:1", S: api.Span{Name: "7:1", Service: 1, From: 7, To: -20}}) {
		t.Error(n)
	}
}

func TestMissing(t *testing.T) {
	c := New()
	c.Take(api.Span{Name: "7:1/0:1/2:3", Well: true})
	c.Take(api.Span{Name: "70:1", Well: true})
	c.Take(api.Span{Name: "7~:1/0:10", Well: true})
	var names []string
	for _, n := range c.Tree(7) {
		names = append(names, n.Name)
		if n.Missing && n.S != (api.Span{}) {
			t.Error(n)
		}
	}
	if !slices.Equal(names, []string{"7:1", "7:1/0:1", "7:1/0:1/2:3", "7~:1", "7~:1/0:10"}) || !c.Whole(70) || c.Whole(7) {
		t.Error(names)
	}
}

func TestForest(t *testing.T) {
	r := rand.New(rand.NewSource(1))
	for range 200 {
		all := []string{"7:1", "7:2"}
		for range 20 {
			all = append(all, all[r.Intn(len(all))]+"/"+strconv.Itoa(r.Intn(3))+":"+strconv.Itoa(1+r.Intn(2)))
		}
		slices.Sort(all)
		all = slices.Compact(all)
		came := map[string]bool{}
		a, b := New(), New()
		for _, i := range r.Perm(len(all))[:r.Intn(len(all)+1)] {
			came[all[i]] = true
			a.Take(api.Span{Name: all[i], From: i})
		}
		for _, i := range r.Perm(len(all)) {
			for range 2 {
				if came[all[i]] {
					b.Take(api.Span{Name: all[i], From: i})
				}
			}
		}
		tree := a.Tree(7)
		if !slices.Equal(tree, b.Tree(7)) {
			t.Fatal("the row in which they come")
		}
		seen := map[string]bool{}
		for _, n := range tree {
			if up := ctx.Up(n.Name); seen[n.Name] || up != "" && !seen[up] || n.Missing == came[n.Name] {
				t.Fatal(n)
			}
			seen[n.Name] = true
		}
		for name := range seen {
			is := came[name]
			for other := range came {
				for up := ctx.Up(other); up != ""; up = ctx.Up(up) {
					is = is || up == name
				}
			}
			if !is {
				t.Fatal("around nothing that came", name)
			}
		}
		for name := range came {
			if !seen[name] {
				t.Fatal("came", name)
			}
		}
		if len(came) == len(all) && !a.Whole(7) {
			t.Fatal("whole")
		}
	}
}
