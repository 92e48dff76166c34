// Package token is layer 19: tokens for further attempts.
package token

import (
	"pursebearer/api"
)

// Check tells how a budget is wrong.
func Check(b api.Budget) api.Errno { return 0 }

// Bucket is tokens for further attempts.
type Bucket struct{}

// New is a bucket that is full.
func New(b api.Budget) *Bucket { return nil }

// Fresh notes a call.
func (b *Bucket) Fresh() {}

// Take takes a token, if there is one.
func (b *Bucket) Take() bool { return false }

// Left is how many there are.
func (b *Bucket) Left() int { return 0 }

// Most is how many may be taken, at most, behind so many calls.
func Most(b api.Budget, calls int) int { return 0 }
