package token

import (
	"math/rand"
	"testing"

	"pursebearer/api"
)

func TestCheck(t *testing.T) {
	for _, x := range []struct {
		b    api.Budget
		want api.Errno
	}{
		{api.Budget{Per: 0, Of: 1, Burst: 0}, api.OK}, {api.Budget{Per: 100, Of: 100, Burst: 100}, api.OK},
		{api.Budget{Per: -1, Of: 1}, api.ErrPolicy}, {api.Budget{Per: 101, Of: 1}, api.ErrPolicy}, {api.Budget{Of: 0}, api.ErrPolicy},
		{api.Budget{Of: 101}, api.ErrPolicy}, {api.Budget{Of: 1, Burst: -1}, api.ErrPolicy}, {api.Budget{Of: 1, Burst: 101}, api.ErrPolicy},
	} {
		if got := Check(x.b); got != x.want {
			t.Error(x, got)
		}
	}
}

func TestExample(t *testing.T) {
	b := New(api.Budget{Per: 1, Of: 4, Burst: 1})
	if b.Left() != 1 || !b.Take() || b.Take() || b.Left() != 0 {
		t.Error("burst")
	}
	for range 3 {
		b.Fresh()
	}
	if b.Take() || b.Left() != 0 {
		t.Error("three parts of four")
	}
	b.Fresh()
	if b.Left() != 1 || !b.Take() || b.Take() {
		t.Error("one more")
	}
	for range 9 {
		b.Fresh()
	}
	if b.Left() != 1 || !b.Take() || b.Take() {
		t.Error("no more than the burst")
	}
	if Most(api.Budget{Per: 1, Of: 4, Burst: 1}, 8) != 3 || Most(api.Budget{Per: 100, Of: 3, Burst: 2}, 1<<31-1) != 2+(1<<31-1)*100/3 {
		t.Error("most")
	}
}

func TestConserved(t *testing.T) {
	r := rand.New(rand.NewSource(1))
	for range 500 {
		x := api.Budget{Per: r.Intn(6), Of: 1 + r.Intn(5), Burst: r.Intn(4)}
		b := New(x)
		parts, fresh, taken := x.Burst*x.Of, 0, 0
		since, within := 0, 0 // calls, and what was taken, of a row that begins somewhere
		for range 80 {
			if r.Intn(20) == 0 {
				since, within = 0, 0
			}
			if r.Intn(2) == 0 {
				b.Fresh()
				fresh++
				since++
				parts = min(parts+x.Per, x.Burst*x.Of)
			} else if b.Take() {
				taken++
				within++
				parts -= x.Of
			} else if parts >= x.Of {
				t.Fatal("lost", x)
			}
			if b.Left() != parts/x.Of || b.Left() > x.Burst || taken > Most(x, fresh) || within > Most(x, since) {
				t.Fatal(x, b.Left(), taken, fresh)
			}
		}
	}
}
