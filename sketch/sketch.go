// Package sketch is layer 13: quantiles, told roughly.
package sketch

import (
	"maps"
	"math"
	"math/bits"
	"slices"

	"pursebearer/fix"
)

const (
	single = 16 // numbers below it have a bucket each
	steps  = 8  // buckets of each doubling above it
)

// Sketch is numbers, told apart roughly.
type Sketch struct {
	counts map[int]int // by bucket
	all    int
}

// New is none.
func New() *Sketch { return &Sketch{counts: map[int]int{}} }

// Add notes a number.
func (s *Sketch) Add(n int) { s.put(Bucket(n), 1) }

func (s *Sketch) put(bucket, count int) {
	s.counts[bucket] = sum(s.counts[bucket], count)
	s.all = sum(s.all, count)
}

// sum is both together; the greatest int, where that would be more still: what is joined with itself doubles, and needs few steps for that.
func sum(a, b int) int { return a + min(b, math.MaxInt-a) }

// Len is how many there are.
func (s *Sketch) Len() int { return s.all }

// At is a number such that so many of a thousand are no greater.
func (s *Sketch) At(permil int) int {
	// Thousands and the rest apart: all of them times permil may be more than an int holds.
	left := max(1, s.all/1000*permil+fix.Up(s.all%1000*permil, 1000))
	reached := func(bucket int) bool {
		left -= s.counts[bucket]
		return left <= 0
	}
	for _, b := range slices.Sorted(maps.Keys(s.counts)) {
		if reached(b) {
			return Top(b)
		}
	}
	return 0
}

// Join are the numbers of both.
func (s *Sketch) Join(t *Sketch) *Sketch {
	both := New()
	for _, x := range []*Sketch{s, t} {
		for b, n := range x.counts {
			both.put(b, n)
		}
	}
	return both
}

// Bucket is where a number is told apart, and Top the greatest one there.
func Bucket(n int) int {
	if n < single {
		return max(n, 0)
	}
	e := bits.Len(uint(n)) - 5
	m := n>>(e+1) - steps
	return single + steps*e + m
}

// Top is the greatest number of a bucket.
func Top(b int) int {
	if b < single {
		return max(b, 0)
	}
	e, m := (b-single)/steps, (b-single)%steps
	return (steps+1+m)<<(e+1) - 1
}
