// Package adapt is layer 21: how many may be under way.
package adapt

import (
	"math"
)

const late = 4 // times the base: what takes longer is bad

// Limit is how many may be under way at once.
type Limit struct {
	now, low, high int
	base           int
	cut            bool // whether it was cut ever
	cutAt          int
}

// New is a limit between two numbers, at first the least one.
func New(low, high int) *Limit { return &Limit{now: low, low: low, high: high} }

// Now is the limit.
func (l *Limit) Now() int { return l.now }

// Done notes that one of so many that were under way is done, how long it took, and whether it was well.
func (l *Limit) Done(now, under, took int, well bool) {
	if well && (l.base == 0 || took < l.base) {
		l.base = took
	}
	becomes := map[bool]func(now, under int){true: l.rise, false: l.fall}
	becomes[well && !l.tooLong(took)](now, under)
}

// tooLong tells whether one took too long; where late times the base is more than an int holds, nothing does.
func (l *Limit) tooLong(took int) bool {
	return l.base <= math.MaxInt/late && took > late*l.base
}

func (l *Limit) rise(now, under int) {
	if under >= l.now && l.now < l.high {
		l.now++
	}
}

// fall cuts the limit, but not twice for what was under way together.
func (l *Limit) fall(now, under int) {
	if l.cut && now-l.cutAt < l.base {
		return
	}
	l.cut, l.cutAt = true, now
	l.now = max(l.low, l.now-quarter(l.now))
}

// quarter is the quarter of a limit that a cut takes, rounded up, so that what stays is rounded down.
func quarter(n int) int { return n/4 + (n%4+3)/4 }

// Base is the least time that one took; 0: none did.
func (l *Limit) Base() int { return l.base }
