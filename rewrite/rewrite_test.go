package rewrite

import (
	"math/rand"
	"strings"
	"testing"

	"pursebearer/api"
	"pursebearer/heads"
	"pursebearer/match"
)

func TestCheck(t *testing.T) {
	bad := []api.Head{{Name: "A"}}
	for i, x := range []struct {
		r    api.Rule
		want api.Errno
	}{
		{api.Rule{}, api.OK},
		{api.Rule{Prefix: "/a", Set: []api.Head{{Name: "a"}}, Drop: []string{"a", "a", "b-1"}}, api.OK},
		{api.Rule{Prefix: "a", Set: bad}, api.ErrPath},
		{api.Rule{Set: bad, Drop: make([]string, 9)}, api.ErrHead},
		{api.Rule{Set: []api.Head{{Name: "a"}, {Name: "a"}}}, api.ErrTwice},
		{api.Rule{Drop: make([]string, 9)}, api.ErrLong},
		{api.Rule{Drop: make([]string, 8)}, api.ErrHead},
		{api.Rule{Drop: []string{"a", "B"}}, api.ErrHead},
		{api.Rule{Drop: []string{strings.Repeat("a", 21)}}, api.ErrHead},
		{api.Rule{M: api.Match{Path: "no"}, Mirror: 99}, api.OK},
	} {
		if got := Check(x.r); got != x.want {
			t.Error(i, got)
		}
	}
}

func TestPath(t *testing.T) {
	long := "/" + strings.Repeat("x", 57)
	for _, x := range []struct {
		m      string
		exact  bool
		prefix string
		path   string
		want   string
	}{
		{"/a", false, "/x", "/a/b", "/x/b"}, {"/a", false, "/x", "/a", "/x"}, {"/a", false, "/x", "/c", "/c"},
		{"/a", false, "/", "/a/b", "/b"}, {"/a", false, "/", "/a", "/"}, {"/", false, "/x/y", "/a", "/x/y/a"},
		{"/", false, "/x", "/", "/x"}, {"/", false, "/", "/", "/"}, {"/", false, "/", "/a/b", "/a/b"},
		{"/a", false, "", "/a/b", "/a/b"}, {"/a", true, "/x", "/a/b", "/a/b"}, {"/a", true, "/x", "/a", "/x"},
		{"/a", true, "/", "/a", "/"}, {"/a", false, "/x", "/ab", "/ab"}, {"/a/b", false, "/c", "/a/b/a/b", "/c/a/b"},
		{"/a", false, long, "/a/b", long + "/b"}, {"/a", false, long, "/a/bc", "/a/bc"},
	} {
		r := api.Rule{M: api.Match{Path: x.m, Exact: x.exact}, Prefix: x.prefix}
		if got := Path(r, x.path); got != x.want {
			t.Error(x, got)
		}
	}
}

func TestHeads(t *testing.T) {
	l := []api.Head{{Name: "a", Value: "1"}, {Name: "b", Value: "2"}, {Name: "c", Value: "3"}}
	r := api.Rule{Drop: []string{"a", "b", "z"}, Set: []api.Head{{Name: "d", Value: "4"}, {Name: "a", Value: "5"}, {Name: "c", Value: "6"}}}
	if got := heads.Print(Heads(r, l)); got != "c:1:6 d:1:4 a:1:5" {
		t.Error(got)
	}
	if heads.Print(l) != "a:1:1 b:1:2 c:1:3" || len(Heads(r, nil)) != 3 {
		t.Error("changed")
	}
}

func TestBack(t *testing.T) {
	r := rand.New(rand.NewSource(1))
	path := func() string {
		s := ""
		for range r.Intn(4) {
			s += "/" + strings.Repeat(string(rune('a'+r.Intn(2))), 1+r.Intn(14))
		}
		if s == "" {
			return "/"
		}
		return s
	}
	for range 20000 {
		to := api.Rule{M: api.Match{Path: path()}, Prefix: path()}
		back := api.Rule{M: api.Match{Path: to.Prefix}, Prefix: to.M.Path}
		a := path()
		b := Path(to, a)
		if !match.Path(b) {
			t.Fatal("no path", b)
		}
		if b != a && Path(back, b) != a {
			t.Fatal(to, a, b, Path(back, b))
		}
		c := a + "/c"
		if d := Path(to, c); a != "/" && match.Path(c) && b != a && d != c && !match.On(api.Match{Path: b}, d) {
			t.Fatal("not begun alike", to, a, b, d)
		}
	}
}
