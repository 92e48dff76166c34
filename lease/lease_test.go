package lease

import (
	"math/rand"
	"testing"

	"pursebearer/api"
)

func TestCheck(t *testing.T) {
	for _, x := range []struct {
		limit, window, slice int
		want                 api.Errno
	}{{1, 1, 1, api.OK}, {1000, 1000, 1000, api.OK}, {0, 1, 0, api.ErrRate}, {1001, 1, 1, api.ErrRate}, {1, 0, 1, api.ErrRate}, {1, 1001, 1, api.ErrRate}, {5, 1, 0, api.ErrRate}, {5, 1, 6, api.ErrRate}, {5, 1, 5, api.OK}} {
		if got := Check(api.Rate{Limit: x.limit, Window: x.window, Slice: x.slice}); got != x.want {
			t.Error(x, got)
		}
	}
}

func TestAsk(t *testing.T) {
	l := NewLimiter(api.Rate{Limit: 5, Window: 10, Slice: 2})
	for i, x := range [][2]int{{0, 2}, {1, 2}, {9, 1}, {9, 0}, {10, 2}, {35, 2}, {39, 2}, {39, 1}, {40, 2}} {
		if got := l.Ask(x[0]); got != x[1] {
			t.Error(i, got)
		}
	}
	l.Forget(44)
	if l.Ask(44) != 0 || l.Ask(49) != 0 || l.Ask(50) != 2 {
		t.Error("forgot")
	}
	l.Forget(60)
	if l.Ask(69) != 0 || l.Ask(70) != 2 {
		t.Error("forgot at once")
	}
}

func TestUse(t *testing.T) {
	c := NewClient(api.Rate{Limit: 5, Window: 10, Slice: 2})
	if c.Use(0) {
		t.Error("nothing")
	}
	c.Give(3, 2)
	c.Give(4, 1)
	if !c.Use(4) || !c.Use(9) || c.Use(10) || c.Use(11) {
		t.Error("within the window")
	}
	c.Give(19, 1)
	c.Give(20, 0)
	if c.Use(20) {
		t.Error("of an earlier window")
	}
	c.Give(25, 1<<31-1)
	if !c.Use(29) || c.Use(30) {
		t.Error("much")
	}
}

func TestError(t *testing.T) {
	r := api.Rate{Limit: 7, Window: 3, Slice: 4}
	if Error(r, 5, true) != 7 || Error(r, 5, false) != 15 || Error(r, 0, false) != 0 || Exact(r, 6) != 6 || Exact(r, 8) != 7 || Exact(r, 0) != 0 {
		t.Error("error")
	}
}

func TestAdmitted(t *testing.T) {
	rnd := rand.New(rand.NewSource(1))
	for range 300 {
		limit := 1 + rnd.Intn(12)
		r := api.Rate{Limit: limit, Window: 1 + rnd.Intn(15), Slice: 1 + rnd.Intn(limit)}
		l := NewLimiter(r)
		clients := make([]*Client, 1+rnd.Intn(4))
		for i := range clients {
			clients[i] = NewClient(r)
		}
		admitted, asked, forgot := map[int]int{}, map[int]int{}, map[int]bool{}
		for now := 0; now < 100; now += rnd.Intn(3) {
			k := now / r.Window
			if rnd.Intn(40) == 0 {
				l.Forget(now)
				forgot[k] = true
			}
			c := clients[rnd.Intn(len(clients))]
			asked[k]++
			is := c.Use(now)
			if !is {
				c.Give(now, l.Ask(now))
				is = c.Use(now)
			}
			if is {
				admitted[k]++
			}
		}
		for k, n := range asked {
			if admitted[k] > limit || admitted[k] < Exact(r, n)-Error(r, len(clients), forgot[k]) {
				t.Fatal(r, k, n, admitted[k])
			}
			if r.Slice == 1 && !forgot[k] && admitted[k] != Exact(r, n) {
				t.Fatal("exact", r, k)
			}
		}
	}
}
