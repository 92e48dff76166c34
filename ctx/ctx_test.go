package ctx

import (
	"math"
	"math/rand"
	"testing"

	"pursebearer/api"
	"pursebearer/purse"
)

func good() api.Ctx {
	return api.Ctx{Req: 7, Call: "7:1/0", Deadline: 50, Purse: 8, Version: 1, Prio: 2}
}

func TestCheck(t *testing.T) {
	for i, x := range []struct {
		at        func(*api.Ctx) *int
		low, high int
	}{
		{func(c *api.Ctx) *int { return &c.Req }, 7, 7},
		{func(c *api.Ctx) *int { return &c.Try }, 0, 8},
		{func(c *api.Ctx) *int { return &c.Deadline }, -api.MaxTime, 2 * api.MaxTime},
		{func(c *api.Ctx) *int { return &c.Purse }, 0, 64},
		{func(c *api.Ctx) *int { return &c.Version }, 0, 50},
		{func(c *api.Ctx) *int { return &c.Prio }, 0, 3},
	} {
		for n, want := range map[int]api.Errno{x.low: api.OK, x.high: api.OK, x.low - 1: api.ErrArg, x.high + 1: api.ErrArg} {
			c := good()
			*x.at(&c) = n
			if got := Check(c); got != want {
				t.Error(i, n, got)
			}
		}
	}
	for _, name := range []string{"", "07", "7:1", "7:0/1", "7/0", "7:1/0~", "7 ", "-7"} {
		c := good()
		c.Call = name
		if got := Check(c); got != api.ErrArg {
			t.Error(name, got)
		}
	}
	for name, req := range map[string]int{"300": 300, "1:1/0:2/3": 1, "1:2147483647/2147483647": 1} {
		c := good()
		c.Call, c.Req = name, req
		if got := Check(c); got != api.OK {
			t.Error(name, got)
		}
	}
	c := good()
	if c.Call, c.Req = "301", 301; Check(c) != api.ErrArg {
		t.Error("301")
	}
	c = Copy(good())
	if Check(c) != api.OK {
		t.Error("copy")
	}
	if c.Purse = 1; Check(c) != api.ErrArg {
		t.Error("copy's purse")
	}
	if c.Purse, c.Shadow = 0, false; Check(c) != api.ErrArg {
		t.Error("no copy")
	}
	c = good()
	if c.Shadow, c.Purse = true, 0; Check(c) != api.ErrArg {
		t.Error("shadow")
	}
}

func TestMade(t *testing.T) {
	r := api.Request{ID: 7, At: 10, Path: "/", Prio: 5, Idem: true, Life: 30, Purse: 9}
	conf := api.Conf{Life: 20, Purse: 12}
	root := Root(r, 3, conf)
	if root != (api.Ctx{Req: 7, Call: "7", Idem: true, Deadline: 30, Purse: 9, Version: 3, Prio: 3}) {
		t.Error(root)
	}
	r.Life, r.Purse, r.Prio = 5, 90, -4
	if c := Root(r, 0, conf); c.Deadline != 15 || c.Purse != 12 || c.Prio != 0 {
		t.Error(c)
	}
	try := Try(root, 2, 5)
	if try != (api.Ctx{Req: 7, Call: "7", Try: 2, Idem: true, Deadline: 30, Purse: 5, Version: 3, Prio: 3}) || Span(try) != "7:2" || Span(root) != "7" {
		t.Error(try)
	}
	kid := Kid(try, 1, 3, 4)
	if kid != (api.Ctx{Req: 7, Call: "7:2/1", Idem: true, Deadline: 26, Purse: 2, Version: 3, Prio: 3}) {
		t.Error(kid)
	}
	if c := Copy(try); c != (api.Ctx{Req: 7, Call: "7~", Try: 2, Idem: true, Shadow: true, Deadline: 30, Version: 3, Prio: 3}) {
		t.Error(c)
	}
}

func TestShare(t *testing.T) {
	for _, n := range []int{0, 1, 5, 64, 200} {
		for _, kids := range []int{0, 1, 2, 3, 4, 63, 64, 65, 1000} {
			l := purse.Split(n, kids)
			for i := -1; i <= kids; i++ {
				want := 0
				if i >= 0 && i < kids {
					want = l[i]
				}
				if got := Kid(api.Ctx{Purse: n}, i, kids, 0).Purse; got != want {
					t.Fatal(n, kids, i, got, want)
				}
			}
		}
	}
	if Kid(api.Ctx{Purse: 3}, 2, 1<<62, 0).Purse != 1 || Kid(api.Ctx{Purse: 3}, 1<<40, 1<<62, 0).Purse != 0 || Kid(api.Ctx{Purse: -3}, 0, 2, 0).Purse != 0 {
		t.Error("edges")
	}
}

func TestNames(t *testing.T) {
	for name, want := range map[string]string{"7": "7", "7:1/0": "7/0", "7~:2/0:13/4": "7~/0/4", "7:12": "7", "7:10/0": "7/0", "7:9/9": "7/9", "": "", ":": "", "a:b1": "ab1", "é:1\xff": "é\xff"} {
		if got := Key(api.Ctx{Call: name, Try: 3}); got != want {
			t.Error(name, got)
		}
	}
	for name, want := range map[string]string{"7": "", "7:1": "", "7:1/0": "7:1", "7:1/0:2": "7:1", "7:1/0:2/3:1": "7:1/0:2", "": "", "/": "", "a//": "a/"} {
		if got := Up(name); got != want {
			t.Error(name, got)
		}
	}
	for name, want := range map[string]int{"": 0, "7": 0, "7:1/0:2": 1, "7:1/0:2/3~": 2, "//": 2} {
		if got := Depth(name); got != want {
			t.Error(name, got)
		}
	}
}

func TestRight(t *testing.T) {
	r := rand.New(rand.NewSource(1))
	seen := map[string]bool{}
	for id := 1; id <= 300; id++ {
		c := Root(api.Request{ID: id, At: r.Intn(99), Life: 1 + r.Intn(99), Purse: r.Intn(99), Prio: r.Intn(9) - 3}, r.Intn(51), api.Conf{Life: 50, Purse: 64})
		for range 6 {
			if Check(c) != api.OK || c.Try != 0 || seen[Span(c)] {
				t.Fatal(c)
			}
			seen[Span(c)] = true
			n := 1 + r.Intn(8)
			try := Try(c, n, r.Intn(c.Purse+1))
			other := Try(c, 1+n%8, try.Purse)
			if Check(try) != api.OK || Key(try) != Key(c) || Key(other) != Key(try) || Span(other) == Span(try) {
				t.Fatal(try)
			}
			kids, sum := 1+r.Intn(4), 0
			for i := range kids {
				kid := Kid(try, i, kids, 3)
				sum += kid.Purse
				if Key(kid) != Key(Kid(other, i, kids, 3)) || i > 0 && Key(kid) == Key(Kid(try, 0, kids, 3)) || Up(Span(kid)) != Span(try) || Depth(Span(kid)) != Depth(Span(try))+1 {
					t.Fatal(kid)
				}
			}
			if sum != try.Purse {
				t.Fatal("made", sum, try)
			}
			next := Kid(try, r.Intn(kids), kids, 3)
			if next.Deadline > c.Deadline || next.Purse > c.Purse || next.Req != c.Req || next.Version != c.Version || next.Prio != c.Prio || next.Idem != c.Idem {
				t.Fatal(next)
			}
			if c = next; r.Intn(4) == 0 {
				c = Copy(c)
			}
		}
	}
}

// TestShareOfAny: Kid bounds neither the allowance nor how many it is dealt to.
func TestShareOfAny(t *testing.T) {
	for _, x := range [][4]int{ // allowance, of so many, the part, what that is
		{math.MaxInt, 1, 0, math.MaxInt}, {math.MaxInt, 1, 1, 0}, {math.MaxInt, 1, -1, 0},
		{math.MaxInt, 2, 0, 1 << 62}, {math.MaxInt, 2, 1, 1<<62 - 1}, {math.MaxInt, 2, 2, 0},
		{math.MaxInt - 1, 4, 1, 1 << 61}, {math.MaxInt - 1, 4, 2, 1<<61 - 1},
		{math.MaxInt, math.MaxInt, math.MaxInt - 1, 1}, {math.MaxInt, math.MaxInt, math.MaxInt, 0},
		{math.MaxInt - 1, math.MaxInt, math.MaxInt - 2, 1}, {math.MaxInt - 1, math.MaxInt, math.MaxInt - 1, 0},
		{1 << 40, 1 << 40, 1<<40 - 1, 1}, {1 << 40, 1 << 39, 7, 2}, {1 << 40, 1<<40 - 1, 0, 2}, {1 << 40, 1<<40 - 1, 1, 1},
		{math.MinInt, 1, 0, 0}, {math.MaxInt, 0, 0, 0}, {math.MaxInt, math.MinInt, 0, 0},
	} {
		if got := Kid(api.Ctx{Req: 7, Call: "7", Try: 1, Purse: x[0]}, x[2], x[1], 0).Purse; got != x[3] {
			t.Error(x, got)
		}
	}
	r := rand.New(rand.NewSource(2))
	for range 2000 {
		n, kids := int(r.Uint64()>>1)>>r.Intn(63), 1+r.Intn(1000)
		sum := 0
		for i, want := range purse.Split(n, kids) {
			got := Kid(api.Ctx{Purse: n}, i, kids, 0).Purse
			if sum += got; got != want {
				t.Fatal(n, kids, i, got, want)
			}
		}
		if sum != n {
			t.Fatal("made", n, kids, sum)
		}
	}
}

// TestKidLongPast: however long ago a deadline was, that of a call that is made then is no later.
func TestKidLongPast(t *testing.T) {
	for _, x := range [][3]int{
		{math.MinInt, 0, math.MinInt}, {math.MinInt, 1, math.MinInt}, {math.MinInt + 9999, 10000, math.MinInt},
		{math.MinInt + 10000, 10000, math.MinInt}, {math.MinInt + 10001, 10000, math.MinInt + 1}, {math.MaxInt, 10000, math.MaxInt - 10000}, {-5, 3, -8},
	} {
		if got := Kid(api.Ctx{Deadline: x[0]}, 0, 1, x[1]).Deadline; got != x[2] {
			t.Error(x, got)
		}
	}
}
