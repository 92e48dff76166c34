// Package token is layer 19: tokens for further attempts.
package token

import (
	"pursebearer/api"
	"pursebearer/fix"
)

// Check tells how a budget is wrong.
func Check(b api.Budget) api.Errno {
	if b.Per < 0 || b.Per > 100 || b.Of < 1 || b.Of > 100 || b.Burst < 0 || b.Burst > 100 {
		return api.ErrPolicy
	}
	return api.OK
}

// Bucket is tokens for further attempts.
type Bucket struct {
	b     api.Budget
	parts int // each the Of-th part of a token
}

// New is a bucket that is full.
func New(b api.Budget) *Bucket { return &Bucket{b: b, parts: b.Burst * b.Of} }

// Fresh notes a call.
func (b *Bucket) Fresh() {
	b.change(b.b.Per, func(parts int) int { return min(parts, b.b.Burst*b.b.Of) })
}

// Take takes a token, if there is one.
func (b *Bucket) Take() bool {
	if !some(b.Left) {
		return false
	}
	b.change(-b.b.Of, func(parts int) int { return max(parts, 0) })
	return true
}

// change puts parts in, or takes some, within a bound.
func (b *Bucket) change(by int, bound func(int) int) { b.parts = bound(b.parts + by) }

// some tells whether a token is left.
func some(left func() int) bool { return left() > 0 }

// Left is how many there are.
func (b *Bucket) Left() int { return fix.Down(b.parts, b.b.Of) }

// Most is how many may be taken, at most, behind so many calls.
func Most(b api.Budget, calls int) int { return b.Burst + fix.Down(calls*b.Per, b.Of) }
