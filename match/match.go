// Package match is layer 5: which requests a rule is for.
package match

import (
	"pursebearer/api"
)

// Path tells whether a text may be a path.
func Path(s string) bool { return false }

// Check tells how a match is wrong.
func Check(m api.Match) api.Errno { return 0 }

// Fits tells whether a request is one of those that it is for.
func Fits(m api.Match, path string, heads []api.Head) bool { return false }

// On tells whether some request of a path may fit.
func On(m api.Match, path string) bool { return false }

// Cmp tells which one comes first: -1 the first one, 1 the second one, 0 neither.
func Cmp(a, b api.Match) int { return 0 }
