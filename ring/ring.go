// Package ring is layer 9: a ring of endpoints.
package ring

import (
	"cmp"
	"iter"
	"slices"
	"sort"

	"pursebearer/draw"
)

// Ring is endpoints on a ring, each at some points.
type Ring struct {
	points []point // sorted by place, and by id
	count  int
}

type point struct {
	at uint64
	id int
}

// New is a ring of endpoints, each at so many points.
func New(ids []int, points int) *Ring {
	r := &Ring{}
	seen := map[int]bool{}
	for _, id := range ids {
		if seen[id] {
			continue
		}
		seen[id] = true
		own := draw.Mix(0, uint64(id))
		for k := range points {
			r.points = append(r.points, point{draw.Mix(own, uint64(k)), id})
		}
	}
	r.count = len(seen)
	slices.SortFunc(r.points, func(a, b point) int {
		return cmp.Or(cmp.Compare(a.at, b.at), cmp.Compare(a.id, b.id))
	})
	return r
}

// round goes once round the ring, from a key on, and tells whose points it meets.
func (r *Ring) round(key uint64) iter.Seq[int] {
	return func(yield func(int) bool) {
		n := len(r.points)
		from := sort.Search(n, func(i int) bool { return r.points[i].at >= key })
		for i := range n {
			if !yield(r.points[(from+i)%n].id) {
				return
			}
		}
	}
}

// Of is the endpoint of a key.
func (r *Ring) Of(key uint64) (int, bool) {
	for id := range r.round(key) {
		return id, true
	}
	return 0, false
}

// Row are all endpoints, as they come behind a key.
func (r *Ring) Row(key uint64) []int {
	var row []int
	seen := map[int]bool{}
	for id := range r.round(key) {
		if seen[id] {
			continue
		}
		seen[id] = true
		row = append(row, id)
		if len(row) == r.count {
			break
		}
	}
	return row
}

// Len is how many endpoints there are.
func (r *Ring) Len() int { return r.count }
