// Package sketch is layer 13: quantiles, told roughly.
package sketch

// Sketch is numbers, told apart roughly.
type Sketch struct{}

// New is none.
func New() *Sketch { return nil }

// Add notes a number.
func (s *Sketch) Add(n int) {}

// Len is how many there are.
func (s *Sketch) Len() int { return 0 }

// At is a number such that so many of a thousand are no greater.
func (s *Sketch) At(permil int) int { return 0 }

// Join are the numbers of both.
func (s *Sketch) Join(t *Sketch) *Sketch { return nil }

// Bucket is where a number is told apart, and Top the greatest one there.
func Bucket(n int) int { return 0 }

// Top is the greatest number of a bucket.
func Top(b int) int { return 0 }
