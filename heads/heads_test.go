package heads

import (
	"math/rand"
	"slices"
	"strings"
	"testing"

	"pursebearer/api"
)

func many(n int) []api.Head {
	var l []api.Head
	for i := range n {
		l = append(l, api.Head{Name: "h" + string(rune('a'+i)), Value: "v"})
	}
	return l
}

func TestCheck(t *testing.T) {
	bad := api.Head{Name: "A"}
	for i, x := range []struct {
		l    []api.Head
		want api.Errno
	}{
		{nil, api.OK},
		{many(8), api.OK},
		{many(9), api.ErrLong},
		{append(many(8), bad), api.ErrLong},
		{[]api.Head{{Name: ""}}, api.ErrHead},
		{[]api.Head{{Name: strings.Repeat("a", 20), Value: strings.Repeat("~", 60)}}, api.OK},
		{[]api.Head{{Name: strings.Repeat("a", 21)}}, api.ErrHead},
		{[]api.Head{{Name: "a", Value: strings.Repeat(" ", 61)}}, api.ErrHead},
		{[]api.Head{{Name: "az-09", Value: " ~"}}, api.OK},
		{[]api.Head{{Name: "a", Value: "\x1f"}}, api.ErrHead},
		{[]api.Head{{Name: "a", Value: "\x7f"}}, api.ErrHead},
		{[]api.Head{{Name: "a", Value: "é"}}, api.ErrHead},
		{[]api.Head{{Name: "a_b"}}, api.ErrHead},
		{[]api.Head{{Name: "a`"}}, api.ErrHead},
		{[]api.Head{{Name: "a{"}}, api.ErrHead},
		{[]api.Head{{Name: "a/"}}, api.ErrHead},
		{[]api.Head{{Name: "a:"}}, api.ErrHead},
		{[]api.Head{{Name: "a"}, {Name: "a"}, bad}, api.ErrTwice},
		{[]api.Head{{Name: "a"}, bad, {Name: "a"}}, api.ErrHead},
		{[]api.Head{{Name: "a"}, {Name: "a", Value: "\n"}}, api.ErrHead},
	} {
		if got := Check(x.l); got != x.want {
			t.Error(i, got)
		}
	}
}

func TestGet(t *testing.T) {
	l := []api.Head{{Name: "a", Value: "1"}, {Name: "b"}}
	if v, ok := Get(l, "a"); v != "1" || !ok {
		t.Error("a")
	}
	if v, ok := Get(l, "b"); v != "" || !ok {
		t.Error("b")
	}
	if v, ok := Get(l, "c"); v != "" || ok {
		t.Error("c")
	}
	if _, ok := Get(nil, ""); ok {
		t.Error("none")
	}
}

func TestSet(t *testing.T) {
	l := make([]api.Head, 2, 10)
	l[0], l[1] = api.Head{Name: "a", Value: "1"}, api.Head{Name: "b", Value: "2"}
	got := Set(l, api.Head{Name: "b", Value: "3"}, api.Head{Name: "c", Value: "4"})
	if Print(got) != "a:1:1 b:1:3 c:1:4" || Print(l) != "a:1:1 b:1:2" || l[:3][2].Name != "" {
		t.Error(Print(got), Print(l))
	}
	same := Set(l)
	same[0].Value = "x"
	if l[0].Value != "1" {
		t.Error("shared")
	}
	got = Set(many(7), api.Head{Name: "x", Value: "1"}, api.Head{Name: "y", Value: "2"}, api.Head{Name: "ha", Value: "9"}, api.Head{Name: "x", Value: "3"})
	if len(got) != 8 || got[0].Value != "9" || got[7] != (api.Head{Name: "x", Value: "3"}) {
		t.Error("ninth", got)
	}
}

func TestDrop(t *testing.T) {
	l := many(4)
	got := Drop(l, "hc", "", "ha", "HB", "ha")
	if !slices.Equal(got, []api.Head{l[1], l[3]}) || !slices.Equal(l, many(4)) {
		t.Error(got)
	}
	got = Drop(l)
	got[0].Name = "z"
	if len(got) != 4 || l[0].Name != "ha" || len(Drop(nil, "a")) != 0 {
		t.Error("shared")
	}
}

func TestSame(t *testing.T) {
	a := []api.Head{{Name: "a", Value: "1"}, {Name: "b"}}
	b := []api.Head{a[1], a[0]}
	if !Same(a, b) || !Same(nil, []api.Head{}) || Same(a, a[:1]) || Same(a[:1], a) || Same(a, []api.Head{{Name: "a", Value: "2"}, {Name: "b"}}) || Same(a, []api.Head{{Name: "a", Value: "1"}, {Name: "c"}}) {
		t.Error("same")
	}
}

func TestPrint(t *testing.T) {
	if got := Print([]api.Head{{Name: "a", Value: "b c:1:d"}, {Name: "x-1"}}); got != "a:7:b c:1:d x-1:0:" {
		t.Error(got)
	}
	if Print(nil) != "" {
		t.Error("none")
	}
}

func TestBehind(t *testing.T) {
	r := rand.New(rand.NewSource(1))
	pick := func() api.Head {
		return api.Head{Name: string(rune('a' + r.Intn(10))), Value: string(rune('0' + r.Intn(3)))}
	}
	for range 2000 {
		var l []api.Head
		for range r.Intn(9) {
			l = Set(l, pick())
		}
		h, gone := pick(), pick().Name
		set := Set(l, h)
		v, ok := Get(set, h.Name)
		_, had := Get(l, h.Name)
		if room := had || len(l) < 8; ok != room || ok && v != h.Value || Check(set) != api.OK || !Same(Set(set, h), set) {
			t.Fatal(l, h)
		}
		dropped := Drop(l, gone)
		if _, ok := Get(dropped, gone); ok || Check(dropped) != api.OK {
			t.Fatal("dropped", l, gone)
		}
		for _, x := range l {
			if v, ok := Get(set, x.Name); x.Name != h.Name && (!ok || v != x.Value) {
				t.Fatal("other", x)
			}
			if v, ok := Get(dropped, x.Name); x.Name != gone && (!ok || v != x.Value) {
				t.Fatal("other", x)
			}
		}
		if Same(l, set) && Print(l) != Print(set) || Print(l) == Print(set) && !slices.Equal(l, set) {
			t.Fatal("print")
		}
	}
}
