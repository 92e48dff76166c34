// Package link is layer 27: what messages meet.
package link

import (
	"pursebearer/api"
)

// Check tells how a fault is wrong.
func Check(f api.Fault) api.Errno { return 0 }

// Link is what messages meet.
type Link struct{}

// New is links on which a message takes so many ticks, with faults.
func New(hop int, l []api.Fault) *Link { return nil }

// Send is when a message comes, from one node to another one: never, once, or twice.
func (l *Link) Send(now, from, to int) []int { return nil }

// On are the faults of a kind, of a node, that are there at a tick.
func (l *Link) On(kind, node, now int) (api.Fault, bool) { return api.Fault{}, false }

// End is the tick from which on there is no fault.
func (l *Link) End() int { return 0 }
