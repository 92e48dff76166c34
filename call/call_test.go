package call

import (
	"math/rand"
	"slices"
	"testing"

	"pursebearer/api"
	"pursebearer/ctx"
	"pursebearer/purse"
	"pursebearer/token"
)

func root(purse, deadline int) api.Ctx {
	return api.Ctx{Req: 1, Call: "1", Deadline: deadline, Purse: purse, Version: 1}
}

func policy(timeout, tries, back, hedge int) api.Policy {
	return api.Policy{Timeout: timeout, Tries: tries, Back: back, Hedge: hedge, Budget: api.Budget{Per: 0, Of: 1, Burst: 100}}
}

func full() *token.Bucket { return token.New(api.Budget{Of: 1, Burst: 100}) }

func sends(c api.Ctx, n, purse int) Act { return Act{What: Sends, C: ctx.Try(c, n, purse)} }

func drops(c api.Ctx, n, purse int, e api.Errno) Act {
	return Act{What: Drops, C: ctx.Try(c, n, purse), E: e}
}

func wakes(at int) Act { return Act{What: Wakes, At: at} }

func ends(c api.Ctx, e api.Errno) Act { return Act{What: Ends, C: c, E: e} }

func want(t *testing.T, got []Act, l ...Act) {
	t.Helper()
	if !slices.Equal(got, l) {
		t.Errorf("got %+v, want %+v", got, l)
	}
}

func TestExample(t *testing.T) {
	r := root(3, 1000)
	c := New(r, policy(50, 3, 10, 0), full())
	if over, e := c.Over(); over || e != api.OK || c.Tries() != 0 || len(c.Open()) != 0 || c.Purse() != 3 {
		t.Error("new")
	}
	want(t, c.Begin(0), sends(r, 1, 1), wakes(50))
	if c.Tries() != 1 || !slices.Equal(c.Open(), []int{1}) || c.Purse() != 2 {
		t.Error("begun")
	}
	want(t, c.Answer(5, 1, api.ErrFail, 0), wakes(15))
	want(t, c.Wake(14), wakes(15))
	want(t, c.Wake(15), sends(r, 2, 0), wakes(65))
	if c.Purse() != 1 {
		t.Error("purse", c.Purse())
	}
	want(t, c.Answer(20, 2, api.ErrFail, 45), wakes(45)) // 20 behind, and not ahead of 45
	want(t, c.Wake(45), sends(r, 3, 0), wakes(95))
	want(t, c.Answer(46, 3, api.ErrDown, 0), ends(r, api.ErrDown))
	if over, e := c.Over(); !over || e != api.ErrDown || len(c.Open()) != 0 {
		t.Error("over", e)
	}
	want(t, c.Wake(99))
	want(t, c.Answer(99, 3, api.OK, 0))
}

func TestBegin(t *testing.T) {
	r := root(3, 10)
	want(t, New(r, policy(50, 3, 0, 0), full()).Begin(10), ends(r, api.ErrLate))
	want(t, New(r, policy(50, 3, 0, 0), full()).Begin(9), sends(r, 1, 1), wakes(10))
	c := New(r, policy(50, 3, 0, 0), full())
	c.Begin(0)
	want(t, c.Answer(1, 2, api.OK, 0), wakes(10))
	want(t, c.Answer(1, 1, api.OK, 0), ends(r, api.OK))
	if over, e := c.Over(); !over || e != api.OK {
		t.Error("over")
	}
}

func TestErrors(t *testing.T) {
	for e := api.Errno(1); e < 40; e++ {
		r := root(8, 1000)
		c := New(r, policy(50, 3, 10, 0), full())
		c.Begin(0)
		got := c.Answer(3, 1, e, 0)
		switch e {
		case api.ErrLate, api.ErrAbort, api.ErrVersion, api.ErrNone, api.ErrRate, api.ErrArg:
			want(t, got, ends(r, e))
		default:
			want(t, got, wakes(13))
		}
	}
}

func TestNoMore(t *testing.T) {
	for i, x := range []struct {
		purse, tries, back, deadline, not int
		over                              bool
	}{
		{0, 3, 0, 100, 0, true}, {1, 1, 0, 100, 0, true}, {1, 2, 0, 100, 0, false}, {1, 2, 95, 100, 0, true}, {1, 2, 94, 100, 0, false}, {1, 2, 0, 100, 100, true}, {1, 2, 0, 100, 99, false},
	} {
		r := root(x.purse, x.deadline)
		c := New(r, policy(50, x.tries, x.back, 0), full())
		c.Begin(0)
		got := c.Answer(5, 1, api.ErrFail, x.not)
		if over, _ := c.Over(); over != x.over {
			t.Error(i, got)
		}
	}
	// Without a token the call is over with the last error, when the next attempt is due.
	r := root(8, 100)
	c := New(r, policy(50, 3, 10, 0), token.New(api.Budget{Of: 1}))
	c.Begin(0)
	want(t, c.Answer(1, 1, api.ErrFull, 0), wakes(11))
	want(t, c.Wake(11), ends(r, api.ErrFull))
	if c.Purse() != 4 || c.Tries() != 1 {
		t.Error("spent")
	}
}

func TestTimeout(t *testing.T) {
	r := root(8, 1000)
	c := New(r, policy(50, 2, 0, 0), full())
	c.Begin(0)
	want(t, c.Wake(49), wakes(50))
	want(t, c.Wake(50), drops(r, 1, 4, api.ErrTime), sends(r, 2, 1), wakes(100))
	want(t, c.Answer(60, 1, api.OK, 0), wakes(100)) // it is open no more
	want(t, c.Wake(101), drops(r, 2, 1, api.ErrTime), ends(r, api.ErrTime))
	c = New(r, policy(50, 2, 7, 0), full())
	c.Begin(0)
	want(t, c.Wake(50), drops(r, 1, 4, api.ErrTime), wakes(57))
	r.Deadline = 57
	c = New(r, policy(50, 2, 7, 0), full())
	c.Begin(0)
	want(t, c.Wake(50), drops(r, 1, 4, api.ErrTime), ends(r, api.ErrTime))
	r.Deadline = 50
	c = New(r, policy(50, 2, 0, 0), full())
	c.Begin(0)
	want(t, c.Wake(50), drops(r, 1, 4, api.OK), ends(r, api.ErrLate))
}

func TestBeside(t *testing.T) {
	r := root(20, 1000)
	c := New(r, policy(50, 3, 5, 10), full())
	want(t, c.Begin(0), sends(r, 1, 10), wakes(10))
	want(t, c.Wake(9), wakes(10))
	want(t, c.Wake(10), sends(r, 2, 4), wakes(20))
	want(t, c.Answer(12, 1, api.ErrFail, 0), wakes(20)) // due at 22, beside at 20
	want(t, c.Wake(20), sends(r, 3, 2), wakes(22))      // no more than Tries, but the next one is due still
	want(t, c.Wake(22), wakes(60))
	want(t, c.Answer(30, 2, api.OK, 0), drops(r, 3, 2, api.OK), ends(r, api.OK))
	c = New(r, policy(50, 8, 5, 1), full())
	want(t, c.Begin(0), sends(r, 1, 10), wakes(1))
	// Both at once: what is due goes ahead, and nothing goes beside it.
	c = New(r, policy(50, 8, 5, 10), full())
	c.Begin(0)
	c.Wake(10)
	c.Answer(15, 1, api.ErrFail, 0)
	want(t, c.Wake(25), sends(r, 3, 2), wakes(35))
}

func TestInVain(t *testing.T) {
	r := root(20, 1000)
	b := token.New(api.Budget{Per: 1, Of: 1, Burst: 0})
	c := New(r, policy(50, 3, 5, 10), b)
	c.Begin(0)
	want(t, c.Wake(13), wakes(23))
	want(t, c.Wake(22), wakes(23))
	want(t, c.Wake(23), wakes(33))
	want(t, c.Wake(50), drops(r, 1, 10, api.ErrTime), wakes(55))
	want(t, c.Wake(55), ends(r, api.ErrTime))
}

func TestDueInVain(t *testing.T) {
	// What is due finds no token, but another one is open: the call goes on.
	r := root(20, 1000)
	b := token.New(api.Budget{Of: 1, Burst: 1})
	c := New(r, policy(50, 8, 5, 10), b)
	c.Begin(0)
	want(t, c.Wake(10), sends(r, 2, 4), wakes(20))
	want(t, c.Answer(11, 1, api.ErrDown, 0), wakes(20))
	want(t, c.Wake(21), wakes(20)) // due and beside: the due one is asked for alone
	want(t, c.Wake(22), wakes(32))
	want(t, c.Answer(23, 2, api.ErrFail, 0), wakes(33))
	want(t, c.Wake(33), ends(r, api.ErrFail))
}

func TestLateOpen(t *testing.T) {
	r := root(20, 40)
	c := New(r, policy(50, 8, 5, 10), full())
	c.Begin(0)
	c.Wake(10)
	c.Wake(20)
	want(t, c.Wake(40), drops(r, 1, 10, api.OK), drops(r, 2, 4, api.OK), drops(r, 3, 2, api.OK), ends(r, api.ErrLate))
}

// run runs a call by its wakes, with chances, and tells what it told, and when.
func run(t *testing.T, r *rand.Rand, c *Call, x api.Ctx, p api.Policy) (acts []Act, at []int) {
	wake, failed, not, made := 0, -1, 0, 0
	open := map[int]bool{}
	over := false
	take := func(now int, l []Act) {
		for i, a := range l {
			acts, at = append(acts, a), append(at, now)
			switch a.What {
			case Sends:
				made++
				if p.Hedge == 0 && failed >= 0 && (now < failed+p.Back<<(made-2) || now < not) {
					t.Fatal("too early", now, failed, made)
				}
				open[a.C.Try] = true
			case Drops:
				delete(open, a.C.Try)
				if a.E == api.ErrTime {
					failed, not = now, 0
				}
			case Wakes:
				wake = a.At
				if i != len(l)-1 {
					t.Fatal("wakes is the last one")
				}
			case Ends:
				over = true
			}
		}
	}
	begun := r.Intn(3)
	take(begun, c.Begin(begun))
	for now := begun; now <= x.Deadline+1; now++ {
		for try := range p.Tries + 1 {
			if open[try] && r.Intn(12) == 0 {
				delete(open, try)
				e := []api.Errno{api.OK, api.ErrFail, api.ErrFull, api.ErrFail, api.ErrArg}[r.Intn(5)]
				failed, not = now, r.Intn(2)*(now+r.Intn(10))
				take(now, c.Answer(now, try, e, not))
			}
		}
		for n := 0; !over && wake <= now; n++ {
			if take(now, c.Wake(now)); n > 2 {
				t.Fatal("wakes for ever", wake, now)
			}
		}
	}
	if !over {
		t.Fatal("not over")
	}
	return acts, at
}

func TestRuns(t *testing.T) {
	r := rand.New(rand.NewSource(1))
	for range 2000 {
		budget := api.Budget{Per: r.Intn(2), Of: 1 + r.Intn(3), Burst: r.Intn(4)}
		b := token.New(budget)
		further := 0
		calls := 1 + r.Intn(3)
		for range calls {
			b.Fresh()
			x := root(r.Intn(20), 2+r.Intn(80))
			p := policy(1+r.Intn(30), 1+r.Intn(8), r.Intn(10), r.Intn(10))
			c := New(x, p, b)
			acts, at := run(t, r, c, x, p)
			held, made, over := c.Purse(), 0, 0
			for i, a := range acts {
				switch a.What {
				case Sends:
					made++
					held += a.C.Purse
					if over > 0 || a.C.Try != made || at[i] >= x.Deadline || a.C != ctx.Try(x, made, a.C.Purse) {
						t.Fatal("sends", a)
					}
				case Ends:
					over++
					if at[i] > x.Deadline {
						t.Fatal("late")
					}
				}
			}
			if over != 1 || made != c.Tries() || made > 0 && held+made-1 != x.Purse || made > p.Tries || made > 1+x.Purse {
				t.Fatal("conserved", x, acts)
			}
			further += max(0, made-1)
		}
		if further > token.Most(budget, calls) {
			t.Fatal("storm", budget, further)
		}
	}
	if along, kept := purse.Half(3); along != 1 || kept != 2 {
		t.Error("half")
	}
}
