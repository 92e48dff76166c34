// Package split is layer 6: who gets how many.
package split

import (
	"pursebearer/api"
)

// Check tells how parts are wrong.
func Check(l []api.Part) api.Errno { return 0 }

// Sum is all weights.
func Sum(l []api.Part) int { return 0 }

// Pick is the service that a drawn number stands for.
func Pick(l []api.Part, draw uint64) int { return 0 }

// Each tells whether the n-th, from 1 on, is one of each k-th.
func Each(k, n int) bool { return false }
