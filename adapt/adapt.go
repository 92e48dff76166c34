// Package adapt is layer 21: how many may be under way.
package adapt

const late = 4 // times the base: what takes longer is bad

// Limit is how many may be under way at once.
type Limit struct {
	now, low, high int
	base           int
	cut            bool // whether it was cut ever
	cutAt          int
}

// New is a limit between two numbers, at first the least one.
func New(low, high int) *Limit { return &Limit{now: low, low: low, high: high} }

// Now is the limit.
func (l *Limit) Now() int { return l.now }

// Done notes that one of so many that were under way is done, how long it took, and whether it was well.
func (l *Limit) Done(now, under, took int, well bool) {
	if well && (l.base == 0 || took < l.base) {
		l.base = took
	}
	becomes := map[bool]func(now, under int){true: l.rise, false: l.fall}
	becomes[well && took <= late*l.base](now, under)
}

func (l *Limit) rise(now, under int) {
	if under >= l.now && l.now < l.high {
		l.now++
	}
}

// fall cuts the limit, but not twice for what was under way together.
func (l *Limit) fall(now, under int) {
	if l.cut && now < l.cutAt+l.base {
		return
	}
	l.cut, l.cutAt = true, now
	l.now = max(l.low, 3*l.now/4)
}

// Base is the least time that one took; 0: none did.
func (l *Limit) Base() int { return l.base }
