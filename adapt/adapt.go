// Package adapt is layer 21: how many may be under way.
package adapt

// Limit is how many may be under way at once.
type Limit struct{}

// New is a limit between two numbers, at first the least one.
func New(low, high int) *Limit { return nil }

// Now is the limit.
func (l *Limit) Now() int { return 0 }

// Done notes that one of so many that were under way is done, how long it took, and whether it was well.
func (l *Limit) Done(now, under, took int, well bool) {}

// Base is the least time that one took; 0: none did.
func (l *Limit) Base() int { return 0 }
