// Package bound is layer 10: a ring on which nobody has too much.
package bound

import (
	"pursebearer/api"
	"pursebearer/ring"
)

// Cap is how many attempts one of n may have, where there are so many in all, and one more: percent of the mean, rounded up.
func Cap(all, n, percent int) int { return 0 }

// Pick is the first endpoint of a ring, behind a key, that is one of some, and has less than it may.
func Pick(r *ring.Ring, key uint64, some []int, l []api.Load, percent int) (int, bool) {
	return 0, false
}
