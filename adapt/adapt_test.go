package adapt

import (
	"math/rand"
	"testing"
)

func TestExample(t *testing.T) {
	l := New(2, 9)
	for want := 3; want < 9; want++ {
		if l.Done(0, l.Now(), 5, true); l.Now() != want {
			t.Error(l.Now(), want)
		}
	}
	l.Done(10, 8, 5, false)
	if l.Now() != 6 {
		t.Error("cut", l.Now())
	}
	l.Done(14, 8, 5, false)
	if l.Now() != 6 {
		t.Error("at once", l.Now())
	}
	l.Done(15, 8, 5, false)
	if l.Now() != 4 {
		t.Error("a base behind", l.Now())
	}
}

func TestBase(t *testing.T) {
	l := New(1, 10)
	if l.Base() != 0 || l.Now() != 1 {
		t.Error("new")
	}
	l.Done(0, 1, 3, false)
	if l.Base() != 0 {
		t.Error("not well")
	}
	for _, x := range [][2]int{{10, 10}, {12, 10}, {7, 7}, {9, 7}} {
		if l.Done(0, 0, x[0], true); l.Base() != x[1] {
			t.Error(x, l.Base())
		}
	}
}

func TestGood(t *testing.T) {
	l := New(1, 3)
	l.Done(0, 0, 5, true)
	if l.Now() != 1 {
		t.Error("fewer were under way")
	}
	l.Done(0, 1, 20, true)
	if l.Now() != 2 {
		t.Error("4 times the base is good")
	}
	l.Done(0, 5, 5, true)
	l.Done(0, 5, 5, true)
	if l.Now() != 3 {
		t.Error("high", l.Now())
	}
	l.Done(0, 5, 21, true)
	if l.Now() != 2 {
		t.Error("too long", l.Now())
	}
	l.Done(1, 9, 1, true) // its own time counts, at once
	if l.Base() != 1 || l.Now() != 3 {
		t.Error("base", l.Now())
	}
}

func TestNoBase(t *testing.T) {
	l := New(1, 100)
	for range 99 {
		l.Done(0, 100, 1, true)
	}
	m := New(1, 100)
	for range 5 {
		m.Done(0, 1, 9, false)
	}
	if l.Now() != 100 || m.Now() != 1 {
		t.Error(l.Now(), m.Now())
	}
	// Without a base each bad one cuts.
	m = New(4, 100)
	m.now = 64
	m.Done(3, 1, 9, false)
	m.Done(3, 1, 9, false)
	if m.Now() != 36 {
		t.Error(m.Now())
	}
}

func TestBounds(t *testing.T) {
	r := rand.New(rand.NewSource(1))
	for range 300 {
		low := 1 + r.Intn(20)
		high := low + r.Intn(50)
		l := New(low, high)
		now, last, cutBase := 0, -1, 0
		for range 200 {
			now += r.Intn(4)
			was, base := l.Now(), l.Base()
			l.Done(now, r.Intn(high+1), 1+r.Intn(40), r.Intn(4) > 0)
			if l.Now() < low || l.Now() > high || l.Now() > was+1 || l.Now() < was-(was+3)/4 || base > 0 && l.Base() > base {
				t.Fatal(was, l.Now())
			}
			if l.Now() < was {
				if last >= 0 && now < last+l.Base() {
					t.Fatal("too soon", now, last, cutBase)
				}
				last, cutBase = now, l.Base()
			}
		}
		l.Done(now, 0, 1, true)
		for range high - low {
			l.Done(now, l.Now(), 1, true)
		}
		if l.Now() != high {
			t.Fatal("recovery")
		}
		for range 4 * (high - low) {
			now += l.Base()
			l.Done(now, 0, 1, false)
		}
		if l.Now() != low {
			t.Fatal("down", l.Now(), low)
		}
	}
}

// TestCut: three quarters, rounded down, whatever the limit is.
func TestCut(t *testing.T) {
	for high := 1; high <= 1000; high++ {
		l := New(1, high)
		for range high {
			l.Done(0, high, 1, true)
		}
		was := l.Now()
		if l.Done(0, high, 1, false); was != high || l.Now() != max(1, 3*high/4) {
			t.Error(high, was, l.Now())
		}
	}
}
