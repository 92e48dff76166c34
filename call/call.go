// Package call is layer 31: attempts of a call.
package call

import (
	"maps"
	"slices"

	"pursebearer/api"
	"pursebearer/ctx"
	"pursebearer/purse"
	"pursebearer/token"
)

// What a call does.
const (
	Sends = 1 + iota // the attempt C
	Wakes            // it has to be woken at At
	Ends             // it is over, with E
	Drops            // the attempt C is not waited for any more
)

// Act is what a call does.
type Act struct {
	What, At int
	C        api.Ctx
	E        api.Errno
}

// Call is a call that a proxy makes: attempts, one behind the other, or beside each other.
type Call struct {
	c    api.Ctx
	p    api.Policy
	b    *token.Bucket
	open map[int]attempt // by number

	made, left int
	over       bool
	e          api.Errno // what it is over with, or what an attempt failed with last
	due        bool      // whether the next attempt is, and when
	dueAt      int
	besideFrom int // when the newest attempt was made, or a token asked in vain for one beside
}

// attempt is an attempt that is open, and when it was made.
type attempt struct {
	c  api.Ctx
	at int
}

// New is a call, by a policy, with a bucket of tokens.
func New(c api.Ctx, p api.Policy, b *token.Bucket) *Call {
	return &Call{c: c, p: p, b: b, left: c.Purse, open: map[int]attempt{}}
}

// tell gathers what is told of something that is done, and what follows from it.
func (c *Call) tell(do func(say func(Act))) []Act {
	if c.over {
		return nil
	}
	var acts []Act
	say := func(a Act) { acts = append(acts, a) }
	do(say)
	if !c.over {
		say(Act{What: Wakes, At: c.wakes()})
		return acts
	}
	for _, try := range c.Open() {
		say(Act{What: Drops, C: c.open[try].c})
	}
	clear(c.open)
	say(Act{What: Ends, C: c.c, E: c.e})
	return acts
}

// wakes is the least tick at which something may be to be done.
func (c *Call) wakes() int {
	at := c.c.Deadline
	for _, a := range c.open {
		at = min(at, a.at+c.p.Timeout)
	}
	if c.due {
		at = min(at, c.dueAt)
	}
	if beside, ok := c.beside(); ok {
		at = min(at, beside)
	}
	return at
}

// beside is from when on a further attempt may go beside the open ones.
func (c *Call) beside() (int, bool) {
	if c.p.Hedge < 1 || len(c.open) == 0 || !c.mayMore() {
		return 0, false
	}
	return c.besideFrom + c.p.Hedge, true
}

// mayMore tells whether the policy and the allowance let a further attempt be.
func (c *Call) mayMore() bool { return c.made < c.p.Tries && c.left >= 1 }

func (c *Call) end(e api.Errno) { c.over, c.e = true, e }

// make makes an attempt.
func (c *Call) make(now int, say func(Act)) {
	along, kept := purse.Half(c.left)
	c.left = kept
	c.made++
	a := attempt{ctx.Try(c.c, c.made, along), now}
	c.open[c.made] = a
	c.besideFrom = now
	say(Act{What: Sends, C: a.c})
}

// further makes a further attempt, if it may be made.
func (c *Call) further(now int, say func(Act)) bool {
	if !c.mayMore() || now >= c.c.Deadline || !c.b.Take() {
		return false
	}
	c.left--
	c.make(now, say)
	return true
}

// settle is what comes of an attempt that is open no more.
func (c *Call) settle(now int, e api.Errno, not int) {
	switch e {
	case api.OK:
		// It ends the call, as what is not tried again does.
		fallthrough
	case api.ErrLate, api.ErrAbort, api.ErrVersion, api.ErrNone, api.ErrRate, api.ErrArg:
		c.end(e)
	default:
		c.fail(now, e, not)
	}
}

// fail lets the next attempt be due, or ends the call, if nothing is left to be waited for.
func (c *Call) fail(now int, e api.Errno, not int) {
	c.e = e
	at := max(not, now+c.p.Back<<(c.made-1))
	if !c.due && c.mayMore() && at < c.c.Deadline {
		c.due, c.dueAt = true, at
	}
	if !c.due && len(c.open) == 0 {
		c.end(e)
	}
}

// Begin begins it.
func (c *Call) Begin(now int) []Act {
	return c.tell(func(say func(Act)) {
		if now >= c.c.Deadline {
			c.end(api.ErrLate)
			return
		}
		c.make(now, say)
	})
}

// Answer is that an attempt was answered (OK: well), and not to be asked again ahead of a tick.
func (c *Call) Answer(now, try int, e api.Errno, not int) []Act {
	return c.tell(func(func(Act)) {
		if _, ok := c.open[try]; ok {
			delete(c.open, try)
			c.settle(now, e, not)
		}
	})
}

// Wake wakes it.
func (c *Call) Wake(now int) []Act {
	return c.tell(func(say func(Act)) {
		if now >= c.c.Deadline {
			c.end(api.ErrLate)
			return
		}
		c.timeOut(now, say)
		switch beside, ok := c.beside(); {
		case c.over:
		case c.due && now >= c.dueAt:
			c.due = false
			if !c.further(now, say) && len(c.open) == 0 {
				c.end(c.e)
			}
		case ok && now >= beside:
			if !c.further(now, say) {
				c.besideFrom = now
			}
		}
	})
}

// timeOut drops the attempts that took too long.
func (c *Call) timeOut(now int, say func(Act)) {
	for _, try := range c.Open() {
		a := c.open[try]
		if c.over || now-a.at < c.p.Timeout {
			continue
		}
		delete(c.open, try)
		say(Act{What: Drops, C: a.c, E: api.ErrTime})
		c.settle(now, api.ErrTime, 0)
	}
}

// Over tells whether it is over, and with what.
func (c *Call) Over() (bool, api.Errno) {
	if !c.over {
		return false, api.OK
	}
	return true, c.e
}

// Tries is how many attempts were made; Open those that are waited for.
func (c *Call) Tries() int { return c.made }

// Open are the attempts that are waited for.
func (c *Call) Open() []int { return slices.Sorted(maps.Keys(c.open)) }

// Purse is what is left of its allowance.
func (c *Call) Purse() int { return c.left }
