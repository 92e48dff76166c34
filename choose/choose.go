// Package choose is layer 12: which endpoint gets an attempt.
package choose

import (
	"pursebearer/api"
	"pursebearer/draw"
	"pursebearer/ring"
)

// Pick is the endpoint that gets an attempt: of some, by a kind (api.ByTwo, ..), a key, and loads.
func Pick(kind int, r *ring.Ring, some []int, key uint64, l []api.Load, d *draw.Draws) (int, bool) {
	return 0, false
}

// Load is an endpoint's load.
func Load(l []api.Load, id int) int { return 0 }
