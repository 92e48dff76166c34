package plane

import (
	"math/rand"
	"slices"
	"testing"

	"pursebearer/api"
)

func conf() api.Conf {
	return api.Conf{
		Watch: api.Watch{Errors: 2, Window: 100, Share: 50, Base: 10, Top: 100},
		Low:   1, High: 10, Hop: 2, Life: 100, Horizon: 100,
	}
}

func published(t *testing.T, proxies, versions int) *Plane {
	p := New(proxies)
	for i := range versions {
		if n, e := p.Publish(conf()); n != i+1 || e != api.OK {
			t.Fatal(n, e)
		}
	}
	return p
}

func TestPublish(t *testing.T) {
	p := published(t, 2, 0)
	bad := conf()
	bad.Hop = 0
	if n, e := p.Publish(bad); n != 0 || e != api.ErrRange {
		t.Error(n, e)
	}
	p = published(t, 2, 50)
	if n, e := p.Publish(conf()); n != 0 || e != api.ErrFull {
		t.Error(n, e)
	}
	if n, e := p.Publish(bad); n != 0 || e != api.ErrRange {
		t.Error("wrong ahead of full", n, e)
	}
	s, ok := p.Snap(7)
	again, _ := p.Snap(7)
	if !ok || s.Version != 7 || s.C.Hop != 2 || s != again {
		t.Error("snap")
	}
	for _, n := range []int{0, -1, 51} {
		if s, ok := p.Snap(n); s != nil || ok {
			t.Error("snap", n)
		}
	}
}

func TestExample(t *testing.T) {
	p := published(t, 2, 2)
	for _, x := range [][2]int{{0, 2}, {1, 1}, {0, 1}} {
		if e := p.Ack(x[0], x[1]); e != api.OK {
			t.Error(x, e)
		}
	}
	if p.Live() != 1 {
		t.Error("live", p.Live())
	}
	if s, ok := p.Next(1); !ok || s.Version != 2 {
		t.Error("next")
	}
	if _, ok := p.Next(0); ok {
		t.Error("0 has the newest")
	}
	if e := p.Nack(1, 2); e != api.OK || p.Live() != 1 {
		t.Error("nack", e)
	}
	if s, ok := p.Next(1); s != nil || ok {
		t.Error("next of 1")
	}
}

func TestSay(t *testing.T) {
	p := published(t, 2, 1)
	for _, say := range []func(int, int) api.Errno{p.Ack, p.Nack} {
		if say(-1, 1) != api.ErrArg || say(2, 9) != api.ErrArg || say(0, 0) != api.ErrVersion || say(0, 2) != api.ErrVersion {
			t.Error("wrong")
		}
	}
	if p.Ack(0, 1) != api.OK || p.Ack(0, 1) != api.ErrTwice || p.Nack(0, 1) != api.ErrTwice {
		t.Error("acked twice")
	}
	if p.Nack(1, 1) != api.OK || p.Ack(1, 1) != api.ErrTwice || p.Live() != 0 {
		t.Error("nacked twice")
	}
	for _, n := range []int{-1, 2} {
		if s, ok := p.Next(n); s != nil || ok {
			t.Error("next", n)
		}
	}
}

func TestNext(t *testing.T) {
	p := published(t, 1, 3)
	p.Nack(0, 3)
	if s, ok := p.Next(0); !ok || s.Version != 2 {
		t.Error("what is refused is passed by")
	}
	p.Ack(0, 2)
	if _, ok := p.Next(0); ok {
		t.Error("1 is less than what it has")
	}
	p.Publish(conf())
	if s, ok := p.Next(0); !ok || s.Version != 4 {
		t.Error("newest")
	}
}

func TestDropped(t *testing.T) {
	p := published(t, 2, 3)
	if p.Pin(0) != api.ErrVersion || p.Pin(1) != api.ErrVersion || p.Unpin(1) != api.ErrVersion {
		t.Error("nothing is live")
	}
	p.Ack(0, 1)
	p.Ack(1, 1)
	if p.Pin(1) != api.OK || p.Pin(1) != api.OK || p.Pin(2) != api.ErrVersion || len(p.Drop()) != 0 {
		t.Error("pin")
	}
	p.Ack(0, 3)
	p.Ack(1, 3)
	if p.Live() != 3 || p.Pin(1) != api.ErrVersion || !slices.Equal(p.Drop(), []int{2}) || len(p.Drop()) != 0 {
		t.Error("2 is pinned by none")
	}
	if p.Unpin(1) != api.OK || len(p.Drop()) != 0 || p.Unpin(1) != api.OK || p.Unpin(1) != api.ErrVersion || p.Unpin(9) != api.ErrVersion || p.Unpin(0) != api.ErrVersion {
		t.Error("unpin")
	}
	if !slices.Equal(p.Drop(), []int{1}) {
		t.Error("drop")
	}
	if s, ok := p.Snap(1); s != nil || ok {
		t.Error("snap")
	}
	if p.Ack(0, 2) != api.OK || p.Ack(1, 2) != api.OK || p.Live() != 3 {
		t.Error("a version that was dropped was made")
	}
}

func TestNextDropped(t *testing.T) {
	p := published(t, 2, 2)
	p.Ack(0, 1)
	p.Nack(0, 2)
	p.Nack(1, 2)
	p.Ack(1, 1)
	p.Publish(conf())
	p.Ack(0, 3)
	p.Ack(1, 3)
	p.Drop()
	if s, ok := p.Next(0); s != nil || ok {
		t.Error("dropped")
	}
}

func TestNoProxies(t *testing.T) {
	for _, n := range []int{0, -5} {
		p := published(t, n, 2)
		if p.Live() != 2 || p.Ack(0, 1) != api.ErrArg || !slices.Equal(p.Drop(), []int{1}) {
			t.Error(n, p.Live())
		}
	}
	if published(t, 1<<62, 1).Live() != 0 {
		t.Error("many")
	}
}

func TestMakeBeforeBreak(t *testing.T) {
	r := rand.New(rand.NewSource(1))
	for range 200 {
		p := published(t, 3, 1)
		has := map[[2]int]bool{}
		pins := map[int]int{}
		live, made := 0, 1
		for range 80 {
			proxy, v := r.Intn(3), 1+r.Intn(made)
			switch r.Intn(6) {
			case 0:
				if _, e := p.Publish(conf()); e == api.OK {
					made++
				}
			case 1:
				if r.Intn(4) == 0 {
					p.Nack(proxy, v)
				}
			case 2:
				if p.Pin(p.Live()) == api.OK {
					pins[p.Live()]++
				}
			case 3:
				if p.Unpin(v) == api.OK {
					pins[v]--
				}
			case 4:
				for _, n := range p.Drop() {
					if n >= p.Live() || pins[n] > 0 {
						t.Fatal("dropped", n)
					}
				}
			default:
				if s, ok := p.Next(proxy); ok {
					v = s.Version
				}
				if p.Ack(proxy, v) == api.OK {
					has[[2]int{proxy, v}] = true
				}
			}
			l := p.Live()
			if l < live || l > 0 && !(has[[2]int{0, l}] && has[[2]int{1, l}] && has[[2]int{2, l}]) {
				t.Fatal("live", l, live)
			}
			if _, ok := p.Snap(l); l > 0 && !ok {
				t.Fatal("gone", l)
			}
			live = l
		}
	}
}
