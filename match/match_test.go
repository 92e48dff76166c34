package match

import (
	"math/rand"
	"strings"
	"testing"

	"pursebearer/api"
)

func TestPath(t *testing.T) {
	for _, s := range []string{"/", "/a", "/a/b", "/a-z_0.9/.", "/" + strings.Repeat("a", 59)} {
		if !Path(s) {
			t.Error("refused", s)
		}
	}
	for _, s := range []string{"", "a", "a/b", "//", "/a/", "/a//b", "//a", "/A", "/a b", "/é", "/\xff", "/a:b", "/" + strings.Repeat("a", 60), "/a\x00", "/`", "/{", "/š", "/ı"} {
		if Path(s) {
			t.Error("taken", s)
		}
	}
}

func TestCheck(t *testing.T) {
	bad := []api.Head{{Name: "A"}}
	for i, x := range []struct {
		m    api.Match
		want api.Errno
	}{
		{api.Match{Path: "/"}, api.OK},
		{api.Match{Path: "", Heads: bad}, api.ErrPath},
		{api.Match{Path: "/", Heads: bad}, api.ErrHead},
		{api.Match{Path: "/", Heads: []api.Head{{Name: "a"}, {Name: "a"}}}, api.ErrTwice},
		{api.Match{Path: "/", Heads: make([]api.Head, 9)}, api.ErrLong},
	} {
		if got := Check(x.m); got != x.want {
			t.Error(i, got)
		}
	}
}

func TestOn(t *testing.T) {
	for _, x := range []struct {
		m, path       string
		begins, exact bool
	}{
		{"/a", "/a", true, true}, {"/a", "/a/b", true, false}, {"/a", "/ab", false, false}, {"/a", "/", false, false},
		{"/", "/", true, true}, {"/", "/a", true, false}, {"/a/b", "/a", false, false}, {"/a/b", "/a/bc", false, false},
		{"/a/b", "/a/b/c/d", true, false}, {"/", "", false, false}, {"/", "/A", false, false}, {"/a", "/a/", false, false},
	} {
		if On(api.Match{Path: x.m}, x.path) != x.begins || On(api.Match{Path: x.m, Exact: true}, x.path) != x.exact {
			t.Error(x)
		}
		if Fits(api.Match{Path: x.m}, x.path, nil) != x.begins || Fits(api.Match{Path: x.m, Exact: true}, x.path, nil) != x.exact {
			t.Error("fits", x)
		}
	}
}

func TestFits(t *testing.T) {
	m := api.Match{Path: "/a", Heads: []api.Head{{Name: "x", Value: "1"}, {Name: "y"}}}
	for i, x := range []struct {
		l    []api.Head
		want bool
	}{
		{nil, false},
		{[]api.Head{{Name: "x", Value: "1"}}, false},
		{[]api.Head{{Name: "y", Value: ""}, {Name: "x", Value: "1"}}, true},
		{[]api.Head{{Name: "y", Value: "7"}, {Name: "x", Value: "1"}, {Name: "z"}}, true},
		{[]api.Head{{Name: "y"}, {Name: "x", Value: "2"}}, false},
		{[]api.Head{{Name: "y"}, {Name: "x"}}, false},
	} {
		if Fits(m, "/a/b", x.l) != x.want || Fits(m, "/b", x.l) {
			t.Error(i)
		}
		if !Fits(api.Match{Path: "/a"}, "/a", x.l) {
			t.Error("none asked", i)
		}
	}
}

func TestCmp(t *testing.T) {
	one := []api.Head{{Name: "a"}}
	l := []api.Match{
		{Path: "/a/b", Exact: true}, {Path: "/a", Exact: true, Heads: one}, {Path: "/b", Exact: true}, {Path: "/", Exact: true},
		{Path: "/a/b/c"}, {Path: "/a", Heads: []api.Head{{Name: "a"}, {Name: "b"}}}, {Path: "/c", Heads: one}, {Path: "/a"}, {Path: "/", Heads: one}, {Path: "/"},
	}
	for i, a := range l {
		for j, b := range l {
			want := 0
			if i < j {
				want = -1
			} else if i > j {
				want = 1
			}
			if got := Cmp(a, b); got != want {
				t.Error(i, j, got)
			}
		}
	}
	if Cmp(api.Match{Path: "/a", Heads: one}, api.Match{Path: "/b", Heads: []api.Head{{Name: "q", Value: "7"}}}) != 0 {
		t.Error("class")
	}
}

func TestNested(t *testing.T) {
	r := rand.New(rand.NewSource(1))
	path := func() string {
		s := ""
		for range r.Intn(4) {
			s += "/" + string(rune('a'+r.Intn(2)))
		}
		if s == "" {
			return "/"
		}
		return s
	}
	for range 5000 {
		a, b, c := api.Match{Path: path()}, api.Match{Path: path()}, path()
		if On(a, c) && On(b, c) && !On(a, b.Path) && !On(b, a.Path) {
			t.Fatal(a, b, c)
		}
		if On(a, b.Path) && On(b, c) && !On(a, c) || On(a, b.Path) && On(b, a.Path) && a.Path != b.Path || !On(a, a.Path) {
			t.Fatal("no order", a, b, c)
		}
	}
}
