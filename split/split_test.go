package split

import (
	"math/rand"
	"testing"

	"pursebearer/api"
)

// parts are parts of services and weights, told in turns.
func parts(l ...int) []api.Part {
	var out []api.Part
	for i := 0; i < len(l); i += 2 {
		out = append(out, api.Part{Service: l[i], Weight: l[i+1]})
	}
	return out
}

func TestCheck(t *testing.T) {
	for i, x := range []struct {
		l    []api.Part
		want api.Errno
	}{
		{nil, api.ErrWeight},
		{parts(1, 0, 2, 0), api.ErrWeight},
		{parts(1, 0, 10, 1), api.OK},
		{parts(1, 100, 2, 100), api.OK},
		{parts(0, 1), api.ErrService},
		{parts(11, 1), api.ErrService},
		{parts(-1, -1), api.ErrService},
		{parts(1, -1, 0, 1), api.ErrWeight},
		{parts(1, 101), api.ErrWeight},
		{parts(1, 1, 2, 1, 1, 101), api.ErrService},
		{parts(1, 0, 1, 0), api.ErrService},
	} {
		if got := Check(x.l); got != x.want {
			t.Error(i, got)
		}
	}
}

func TestPick(t *testing.T) {
	l := parts(1, 3, 2, 1)
	for i, want := range []int{1, 1, 1, 2, 1} {
		if got := Pick(l, uint64(i)); got != want {
			t.Error(i, got)
		}
	}
	if Pick(l, 1<<64-1) != 2 || Pick(parts(3, 0, 4, 1, 5, 0), 77) != 4 || Sum(l) != 4 || Sum(nil) != 0 || Pick(nil, 5) != 0 {
		t.Error("edges")
	}
}

func TestDealt(t *testing.T) {
	r := rand.New(rand.NewSource(1))
	for range 300 {
		var l []api.Part
		for i := range 1 + r.Intn(5) {
			l = append(l, api.Part{Service: i + 1, Weight: r.Intn(6)})
		}
		if Check(l) != api.OK {
			continue
		}
		got := map[int]int{}
		from := r.Uint64() >> 1
		for i := range Sum(l) {
			s := Pick(l, from+uint64(i))
			got[s]++
			if Pick(l, from+uint64(i)+uint64(Sum(l))) != s {
				t.Fatal("the sum changes it")
			}
		}
		for _, p := range l {
			if got[p.Service] != p.Weight {
				t.Fatal(l, got)
			}
		}
	}
}

func TestEach(t *testing.T) {
	for _, x := range []struct {
		k, n int
		want bool
	}{{1, 1, true}, {2, 4, true}, {2, 3, false}, {4, 2, false}, {0, 0, false}, {0, 4, false}, {4, 0, false}, {-1, 4, false}, {2, -4, false}, {3, 1<<63 - 1, false}} {
		if Each(x.k, x.n) != x.want {
			t.Error(x)
		}
	}
}
