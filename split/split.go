// Package split is layer 6: who gets how many.
package split

import (
	"iter"
	"slices"

	"pursebearer/api"
)

// Check tells how parts are wrong.
func Check(l []api.Part) api.Errno {
	for i, p := range l {
		if p.Service < 1 || p.Service > api.MaxServices {
			return api.ErrService
		}
		if slices.ContainsFunc(l[:i], func(q api.Part) bool { return q.Service == p.Service }) {
			return api.ErrService
		}
		if p.Weight < 0 || p.Weight > api.MaxWeight {
			return api.ErrWeight
		}
	}
	if Sum(l) == 0 {
		return api.ErrWeight
	}
	return api.OK
}

// behind hands out parts, each with the weights ahead of it together.
func behind(l []api.Part) iter.Seq2[int, api.Part] {
	return func(yield func(int, api.Part) bool) {
		ahead := 0
		for _, p := range l {
			if !yield(ahead, p) {
				return
			}
			ahead += p.Weight
		}
	}
}

// Sum is all weights.
func Sum(l []api.Part) int {
	sum := 0
	for ahead, p := range behind(l) {
		sum = ahead + p.Weight
	}
	return sum
}

// Pick is the service that a drawn number stands for.
func Pick(l []api.Part, draw uint64) int {
	sum := Sum(l)
	if sum < 1 {
		return 0
	}
	rest := int(draw % uint64(sum))
	for ahead, p := range behind(l) {
		if ahead+p.Weight > rest {
			return p.Service
		}
	}
	return 0
}

// Each tells whether the n-th, from 1 on, is one of each k-th.
func Each(k, n int) bool {
	return k > 0 && n > 0 && n%k == 0
}
