// Package admit is layer 23: who goes on.
package admit

import (
	"pursebearer/adapt"
	"pursebearer/api"
	"pursebearer/fair"
)

// What becomes of one that comes.
const (
	Runs = 1 + iota
	Waits
	Shed
)

// Gate lets so many be under way, and others wait.
type Gate struct {
	*fair.Queue
	limit *adapt.Limit
	under map[int]bool // by ID
}

// New is a gate: from low to high under way, so many wait.
func New(low, high, wait int) *Gate {
	return &Gate{Queue: fair.New(wait), limit: adapt.New(low, high), under: map[int]bool{}}
}

// Enter is what becomes of one that comes; and one that is shed for it.
func (g *Gate) Enter(x api.Item) (what int, shed api.Item, is bool) {
	if g.Under() < g.Limit() {
		g.under[x.ID] = true
		return Runs, api.Item{}, false
	}
	shed, is = g.Put(x)
	if is && shed.ID == x.ID {
		return Shed, api.Item{}, false
	}
	return Waits, shed, is
}

// Done notes that one is done, and tells which may go on now.
func (g *Gate) Done(now, id, took int, well bool) []int {
	if !g.under[id] {
		return nil
	}
	g.limit.Done(now, g.Under(), took, well)
	delete(g.under, id)
	return g.letOn()
}

// Gone takes one away, whether it waits or is under way, without its time being noted, and tells which may go on now.
func (g *Gate) Gone(id int) []int {
	if !g.Drop(id) {
		delete(g.under, id)
	}
	return g.letOn()
}

// letOn lets go on as many as may.
func (g *Gate) letOn() []int {
	var ids []int
	for g.Under() < g.Limit() {
		x, ok := g.Take()
		if !ok {
			break
		}
		g.under[x.ID] = true
		ids = append(ids, x.ID)
	}
	return ids
}

// Under is how many are under way; Waiting how many wait; Limit how many may be under way.
func (g *Gate) Under() int { return len(g.under) }

// Waiting is how many wait.
func (g *Gate) Waiting() int { return g.Len() }

// Limit is how many may be under way.
func (g *Gate) Limit() int { return g.limit.Now() }
