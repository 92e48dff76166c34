// Package ring is layer 9: a ring of endpoints.
package ring

// Ring is endpoints on a ring, each at some points.
type Ring struct{}

// New is a ring of endpoints, each at so many points.
func New(ids []int, points int) *Ring { return nil }

// Of is the endpoint of a key.
func (r *Ring) Of(key uint64) (int, bool) { return 0, false }

// Row are all endpoints, as they come behind a key.
func (r *Ring) Row(key uint64) []int { return nil }

// Len is how many endpoints there are.
func (r *Ring) Len() int { return 0 }
