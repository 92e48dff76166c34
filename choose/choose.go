// Package choose is layer 12: which endpoint gets an attempt.
package choose

import (
	"slices"

	"pursebearer/api"
	"pursebearer/bound"
	"pursebearer/draw"
	"pursebearer/ring"
)

const percent = 125 // of the mean load: what one may have by a bounded ring

// Pick is the endpoint that gets an attempt: of some, by a kind (api.ByTwo, ..), a key, and loads.
func Pick(kind int, r *ring.Ring, some []int, key uint64, l []api.Load, d *draw.Draws) (int, bool) {
	how := map[int]func() (int, bool){
		api.ByTwo:   func() (int, bool) { return byTwo(some, l, d) },
		api.ByRing:  func() (int, bool) { return byRing(r, some, key) },
		api.ByBound: func() (int, bool) { return bound.Pick(r, key, some, l, percent) },
	}
	pick, ok := how[kind]
	if !ok {
		return 0, false
	}
	return pick()
}

func byTwo(some []int, l []api.Load, d *draw.Draws) (int, bool) {
	switch len(some) {
	case 0:
		return 0, false
	case 1:
		return some[0], true
	}
	i, j := d.Two(len(some))
	if Load(l, some[j]) < Load(l, some[i]) {
		return some[j], true
	}
	return some[i], true
}

func byRing(r *ring.Ring, some []int, key uint64) (int, bool) {
	for _, id := range r.Row(key) {
		if slices.Contains(some, id) {
			return id, true
		}
	}
	return 0, false
}

// Load is an endpoint's load.
func Load(l []api.Load, id int) int {
	for _, x := range l {
		if x.ID == id {
			return x.N
		}
	}
	return 0
}
