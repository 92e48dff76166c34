// Package sample is layer 29: which spans are kept.
package sample

import (
	"pursebearer/api"
)

// Head tells whether a request's spans are kept from the beginning on.
func Head(req, percent int) bool { return false }

// Tail keeps spans till their request is over, and tells then which ones are kept.
type Tail struct{}

// New is one that keeps those of so many requests, and lets go those that were well and took less than so many ticks, unless they are kept by their heads.
func New(most, percent, slow int) *Tail { return nil }

// Add takes a span; those that have to go for it.
func (t *Tail) Add(s api.Span) []api.Span { return nil }

// Over is that a request is over: its spans, if they are kept.
func (t *Tail) Over(req int, well bool, took int) []api.Span { return nil }

// Len is how many requests it has.
func (t *Tail) Len() int { return 0 }
