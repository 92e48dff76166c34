// Package purse is layer 18: allowances, that are spent and never made.
package purse

import (
	"strconv"
	"strings"

	"pursebearer/api"
	"pursebearer/names"
)

// Split is an allowance, dealt to so many.
func Split(n, kids int) []int {
	var l []int
	for i := range kids {
		part := n / kids
		if i < n%kids {
			part++
		}
		l = append(l, part)
	}
	return l
}

// Half is what an attempt takes along, and what is kept.
func Half(n int) (along, kept int) { return n / 2, n - n/2 }

// Ledger is who has which allowance.
type Ledger struct {
	left map[string]int // of holders that have something
	sums map[int]sum    // by request
}

// sum is what all holders of a request have, and what is spent of it.
type sum struct{ held, spent int }

// New is one of which nothing is noted.
func New() *Ledger { return &Ledger{left: map[string]int{}, sums: map[int]sum{}} }

// request is a holder's request.
func request(holder string) (int, bool) {
	if i := strings.IndexAny(holder, ":/~"); i >= 0 {
		holder = holder[:i]
	}
	req, ok := names.Decimal(holder)
	return req, ok && req >= 1
}

// Mint gives a fresh request its allowance.
func (l *Ledger) Mint(req, n int) api.Errno {
	own := strconv.Itoa(req)
	return l.change(own, n, func() api.Errno {
		if req < 1 || req > api.MaxTime || n < 0 || n > api.MaxTime {
			return api.ErrArg
		}
		if _, ok := l.sums[req]; ok {
			return api.ErrTwice
		}
		l.sums[req] = sum{held: n}
		return api.OK
	})
}

// Move moves some of it from one holder to another one.
func (l *Ledger) Move(from, to string, n int) api.Errno {
	e := l.change(from, -n, func() api.Errno {
		req, ok := request(from)
		if other, is := request(to); !ok || !is || other != req {
			return api.ErrArg
		}
		return l.may(from, n)
	})
	if e != api.OK {
		return e
	}
	return l.change(to, n, func() api.Errno { return api.OK })
}

// Spend takes some of it away.
func (l *Ledger) Spend(at string, n int) api.Errno {
	return l.change(at, -n, func() api.Errno {
		if e := l.may(at, n); e != api.OK {
			return e
		}
		req, _ := request(at)
		s := l.sums[req]
		l.sums[req] = sum{s.held - n, s.spent + n}
		return api.OK
	})
}

// may tells whether a holder may give away so much.
func (l *Ledger) may(at string, n int) api.Errno {
	req, ok := request(at)
	if n < 0 || !ok {
		return api.ErrArg
	}
	if _, ok := l.sums[req]; !ok {
		return api.ErrNone
	}
	if l.left[at] < n {
		return api.ErrPurse
	}
	return api.OK
}

// change gives a holder more, or less, if it may be done.
func (l *Ledger) change(at string, by int, may func() api.Errno) api.Errno {
	if e := may(); e != api.OK {
		return e
	}
	l.left[at] += by
	if l.left[at] == 0 {
		delete(l.left, at)
	}
	return api.OK
}

// Left is what a holder has.
func (l *Ledger) Left(at string) int { return l.left[at] }

// Sum is all that is held, and all that was spent, of a request.
func (l *Ledger) Sum(req int) (held, spent int) {
	s := l.sums[req]
	return s.held, s.spent
}
