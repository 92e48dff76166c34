package link

import (
	"math/rand"
	"slices"
	"testing"

	"pursebearer/api"
)

func TestCheck(t *testing.T) {
	for i, x := range []struct {
		kind, from, to, a, b, n int
		want                    api.Errno
	}{
		{0, -1, 0, -1, 0, 0, api.ErrArg}, {11, 0, 1, 0, 1, 1, api.ErrArg},
		{api.Cut, -1, 1, -1, 0, 0, api.ErrRange}, {api.Cut, 3, 3, -1, 0, 0, api.ErrRange}, {api.Cut, 3, 1 << 31, 0, 1, 0, api.ErrRange}, {api.Cut, 0, 1<<31 - 1, 0, 1, 0, api.OK},
		{api.Cut, 0, 1, -1, 0, 0, api.ErrEnd}, {api.Cut, 0, 1, 11, 0, 0, api.ErrEnd}, {api.Cut, 0, 1, 100, 0, 0, api.ErrEnd}, {api.Cut, 0, 1, 141, 0, 0, api.ErrEnd}, {api.Cut, 0, 1, 203, 0, 0, api.ErrEnd}, {api.Cut, 0, 1, 199, 0, 0, api.ErrEnd},
		{api.Cut, 0, 1, 140, 202, 0, api.OK}, {api.Cut, 0, 1, 200, 201, 0, api.OK}, {api.Cut, 0, 1, 10, 101, 0, api.OK}, {api.Cut, 0, 1, 10, -1, 0, api.OK},
		{api.Cut, 0, 1, 10, 10, 1, api.ErrEnd}, {api.Cut, 0, 1, 10, -2, 1, api.ErrEnd}, {api.Cut, 0, 1, 10, 150, 1, api.ErrEnd}, {api.Cut, 0, 1, 10, 9, 1, api.ErrArg},
		{api.Lose, 0, 1, 1, 2, 0, api.ErrArg}, {api.Lose, 0, 1, 1, 2, 10000, api.OK}, {api.Lose, 0, 1, 1, 2, 10001, api.ErrArg}, {api.Double, 0, 1, 1, 2, 1, api.OK}, {api.Double, 0, 1, 1, 2, 10001, api.ErrArg},
		{api.Slow, 0, 1, 1, 2, 1, api.OK}, {api.Slow, 0, 1, 1, 2, 20, api.OK}, {api.Slow, 0, 1, 1, 2, 21, api.ErrArg}, {api.Slow, 0, 1, 1, 2, 0, api.ErrArg},
		{api.Forget, 0, 1, 201, 0, 0, api.OK}, {api.Forget, 0, 1, 101, 0, 0, api.ErrEnd}, {api.Forget, 0, 1, 202, 0, 0, api.ErrEnd},
		{api.Pause, 0, 1, 101, 0, 0, api.OK}, {api.Pause, 0, 1, 201, 0, 0, api.ErrEnd}, {api.Pause, 0, 1, 0, 1, 0, api.ErrEnd}, {api.Pause, 0, 1, 101, 1, 0, api.ErrArg}, {api.Pause, 0, 1, 101, -1, 0, api.ErrArg}, {api.Pause, 0, 1, 101, 0, 1, api.ErrArg},
		{api.Crash, 0, 1, 140, 0, 0, api.OK}, {api.Crash, 0, 1, 140, 0, 2, api.ErrArg}, {api.Untrusted, 0, 1, 101, 0, 0, api.OK}, {api.Untrusted, 0, 1, 101, 0, -1, api.ErrArg},
		{api.Sick, 0, 1, 101, 0, 1, api.OK}, {api.Sick, 0, 1, 101, 0, 10000, api.OK}, {api.Sick, 0, 1, 101, 0, 10001, api.ErrArg}, {api.Sick, 0, 1, 101, 0, 0, api.ErrArg},
		{api.Lazy, 0, 1, 101, 0, 1, api.OK}, {api.Lazy, 0, 1, 101, 0, 20, api.OK}, {api.Lazy, 0, 1, 101, 0, 21, api.ErrArg}, {api.Lazy, 0, 1, 101, 0, 0, api.ErrArg},
	} {
		if got := Check(api.Fault{Kind: x.kind, From: x.from, To: x.to, A: x.a, B: x.b, N: x.n}); got != x.want {
			t.Error(i, x, got)
		}
	}
}

func TestExample(t *testing.T) {
	l := New(2, []api.Fault{{Kind: api.Lose, From: 5, To: 9, A: 0, B: 101, N: 2}})
	for _, x := range []struct {
		now  int
		want []int
	}{{4, []int{6}}, {5, []int{7}}, {6, nil}, {7, []int{9}}, {9, []int{11}}} {
		if got := l.Send(x.now, 0, 101); !slices.Equal(got, x.want) {
			t.Error(x, got)
		}
	}
}

func TestSend(t *testing.T) {
	l := New(3, []api.Fault{
		{Kind: api.Slow, From: 0, To: 10, A: 1, B: 102, N: 4},
		{Kind: api.Slow, From: 0, To: 10, A: 102, B: -1, N: 5},
		{Kind: api.Double, From: 0, To: 10, A: 1, B: -1, N: 2},
		{Kind: api.Cut, From: 10, To: 12, A: 102, B: 1},
		{Kind: api.Pause, From: 0, To: 99, A: 102},
		{Kind: api.Lose, From: 9, To: 13, A: 102, B: 1, N: 2},
	})
	for i, x := range []struct {
		now, from, to int
		want          []int
	}{
		{0, 1, 102, []int{12}}, {0, 102, 1, []int{12, 13}}, {0, 102, 2, []int{8}}, {0, 2, 3, []int{3}}, {1, 1, 2, []int{4}}, {1, 2, 1, []int{4, 5}},
		{10, 1, 102, nil}, {10, 102, 2, []int{13}}, {12, 102, 1, nil}, // the Lose counted what the Cut took
		{12, 1, 102, []int{15}}, {13, 1, 102, []int{16}},
	} {
		if got := l.Send(x.now, x.from, x.to); !slices.Equal(got, x.want) {
			t.Error(i, got)
		}
	}
}

func TestEach(t *testing.T) {
	l := New(1, []api.Fault{{Kind: api.Lose, From: 0, To: 3, A: 0, B: 1, N: 1}, {Kind: api.Double, From: 0, To: 9, A: 0, B: 1, N: 1}})
	for now, want := range [][]int{nil, nil, nil, {4, 5}, {5, 6}} {
		if got := l.Send(now, 1, 0); !slices.Equal(got, want) {
			t.Error(now, got)
		}
	}
}

func TestOn(t *testing.T) {
	l := []api.Fault{{Kind: api.Sick, From: 5, To: 9, A: 101, N: 2}, {Kind: api.Sick, From: 7, To: 12, A: 101, N: 3}, {Kind: api.Pause, From: 1, To: 2, A: 102}}
	k := New(1, l)
	l[0].N = 9
	for _, x := range []struct{ kind, node, now, want int }{{api.Sick, 101, 4, 0}, {api.Sick, 101, 5, 2}, {api.Sick, 101, 8, 2}, {api.Sick, 101, 9, 3}, {api.Sick, 101, 12, 0}, {api.Sick, 102, 8, 0}, {api.Lazy, 101, 8, 0}} {
		if f, ok := k.On(x.kind, x.node, x.now); f.N != x.want || ok != (x.want > 0) || !ok && f != (api.Fault{}) {
			t.Error(x, f)
		}
	}
	if k.End() != 12 || New(1, nil).End() != 0 {
		t.Error("end")
	}
}

func TestMessages(t *testing.T) {
	r := rand.New(rand.NewSource(1))
	nodes := []int{0, 1, 101, 102, 200}
	for range 300 {
		var l []api.Fault
		for range r.Intn(5) {
			kind := []int{api.Lose, api.Slow, api.Double, api.Cut}[r.Intn(4)]
			from := r.Intn(20)
			f := api.Fault{Kind: kind, From: from, To: from + 1 + r.Intn(20), A: nodes[r.Intn(5)], B: -1, N: 1 + r.Intn(3)}
			if b := nodes[r.Intn(5)]; b != f.A {
				f.B = b
			}
			if kind == api.Cut {
				f.N = 0
			}
			if Check(f) != api.OK {
				t.Fatal(f)
			}
			l = append(l, f)
		}
		a, b := New(2, l), New(2, l)
		for now := range 60 {
			i := r.Intn(5)
			j := (i + 1 + r.Intn(4)) % 5
			got := a.Send(now, nodes[i], nodes[j])
			if turned := b.Send(now, nodes[j], nodes[i]); !slices.Equal(got, turned) {
				t.Fatal("the way", l, got, turned)
			}
			if len(got) > 2 || len(got) > 0 && got[0] < now+2 || len(got) == 2 && got[1] != got[0]+1 {
				t.Fatal(got)
			}
			if now >= a.End() && !slices.Equal(got, []int{now + 2}) {
				t.Fatal("quiet", got)
			}
		}
	}
}
