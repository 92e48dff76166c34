// Package admit is layer 23: who goes on.
package admit

import (
	"pursebearer/api"
)

// What becomes of one that comes.
const (
	Runs = 1 + iota
	Waits
	Shed
)

// Gate lets so many be under way, and others wait.
type Gate struct{}

// New is a gate: from low to high under way, so many wait.
func New(low, high, wait int) *Gate { return nil }

// Enter is what becomes of one that comes; and one that is shed for it.
func (g *Gate) Enter(x api.Item) (what int, shed api.Item, is bool) { return 0, api.Item{}, false }

// Done notes that one is done, and tells which may go on now.
func (g *Gate) Done(now, id, took int, well bool) []int { return nil }

// Gone takes one away, whether it waits or is under way, without its time being noted, and tells which may go on now.
func (g *Gate) Gone(id int) []int { return nil }

// Under is how many are under way; Waiting how many wait; Limit how many may be under way.
func (g *Gate) Under() int { return 0 }

// Waiting is how many wait.
func (g *Gate) Waiting() int { return 0 }

// Limit is how many may be under way.
func (g *Gate) Limit() int { return 0 }
