package trace

import (
	"math/rand"
	"slices"
	"strconv"
	"testing"

	"pursebearer/api"
)

func spans(names ...string) []api.Span {
	var l []api.Span
	for _, n := range names {
		l = append(l, api.Span{Name: n})
	}
	return l
}

func TestNote(t *testing.T) {
	var l Log
	if len(l.Spans(7)) != 0 {
		t.Error("none")
	}
	for _, x := range []struct {
		name string
		want api.Errno
	}{{"7:1", api.OK}, {"7", api.ErrForm}, {"", api.ErrForm}, {"7:1/0", api.ErrForm}, {"7:01", api.ErrForm}, {"7:1/0:2", api.OK}, {"7:1", api.ErrTwice}, {"8~:1", api.OK}, {"7~:1", api.OK}, {"2147483647:1", api.OK}, {"2147483648:1", api.ErrForm}} {
		if got := l.Note(api.Span{Name: x.name, Service: 3}); got != x.want {
			t.Error(x, got)
		}
	}
	got := l.Spans(7)
	want := []api.Span{{Name: "7:1", Service: 3}, {Name: "7:1/0:2", Service: 3}, {Name: "7~:1", Service: 3}}
	if !slices.Equal(got, want) || len(l.Spans(2147483647)) != 1 || len(l.Spans(0)) != 0 || len(l.Spans(9)) != 0 {
		t.Error(got)
	}
	got[0].Name = "x"
	if l.Spans(7)[0].Name != "7:1" {
		t.Error("shared")
	}
}

func TestBefore(t *testing.T) {
	for _, x := range []struct {
		a, b string
		want bool
	}{
		{"7:1", "7:1/0:2", true}, {"7:1", "7:1/0:2/3:1", true}, {"7:1/0:2", "7:1/0:2/3:1", true}, {"7:1", "7:2/0:1", false}, {"7:1", "7:1", false},
		{"7:1/0:2", "7:1", false}, {"", "7:1", false}, {"", "/x", false}, {"7", "7:1", false}, {"7:1", "7:12/0:1", false}, {"7:1", "7:1/0", true},
	} {
		if got := Before(x.a, x.b); got != x.want {
			t.Error(x, got)
		}
	}
}

func TestReq(t *testing.T) {
	for name, want := range map[string]int{"7": 7, "7~": 7, "7:1": 7, "12:1/0:3/4~": 12, "": 0, "x": 0, "0:1": 0, "07": 0, "7:1~": 0, "7/0": 0} {
		if got := Req(name); got != want {
			t.Error(name, got)
		}
	}
}

func TestForest(t *testing.T) {
	for i, x := range []struct {
		l    []api.Span
		want bool
	}{
		{nil, true}, {spans("7:1", "7:1/0:2"), true}, {spans("7:1/0:2", "7:1"), true}, {spans("7:1/0:2"), false}, {spans("7:1", "7:1"), false},
		{spans("7:1", "8:1", "8:1/0:1/0:1"), false}, {spans("x", "y"), true}, {spans("x", "x/y", "x/y/z"), true}, {spans("/y"), true},
	} {
		if got := Forest(x.l); got != x.want {
			t.Error(i, got)
		}
	}
}

func TestOrder(t *testing.T) {
	r := rand.New(rand.NewSource(1))
	for range 100 {
		var l Log
		all := []string{"7:1", "7:2", "8:1"}
		for range 30 {
			all = append(all, all[r.Intn(len(all))]+"/"+strconv.Itoa(r.Intn(2))+":"+strconv.Itoa(1+r.Intn(2)))
		}
		for _, n := range all {
			l.Note(api.Span{Name: n})
		}
		for _, req := range []int{7, 8} {
			got := l.Spans(req)
			if !Forest(got) {
				t.Fatal("no forest")
			}
			leaf := slices.IndexFunc(got, func(s api.Span) bool {
				return !slices.ContainsFunc(got, func(x api.Span) bool { return Before(s.Name, x.Name) })
			})
			if !Forest(slices.Delete(got, leaf, leaf+1)) {
				t.Fatal("without a leaf")
			}
		}
		for range 500 {
			a, b, c := all[r.Intn(len(all))], all[r.Intn(len(all))], all[r.Intn(len(all))]
			if Before(a, a) || Before(a, b) && Before(b, c) && !Before(a, c) || Before(a, b) && Req(a) != Req(b) {
				t.Fatal("no order", a, b, c)
			}
			if a != b && Before(a, c) && Before(b, c) && !Before(a, b) && !Before(b, a) {
				t.Fatal("beside", a, b, c)
			}
		}
	}
}
