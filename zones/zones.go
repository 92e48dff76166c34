// Package zones is layer 11: near endpoints first.
package zones

import (
	"pursebearer/api"
)

// Home is the percent of calls that stay in a zone.
func Home(l []api.End, well []int, zone int) int { return 0 }

// Panic tells whether too few are well.
func Panic(l []api.End, well []int, percent int) bool { return false }

// Among are the endpoints among which one is chosen, where draw is from 0 to 99.
func Among(l []api.End, well []int, zone, percent, draw int) []int { return nil }
