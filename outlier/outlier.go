// Package outlier is layer 14: which endpoints are not well.
package outlier

import (
	"pursebearer/api"
)

// Guard watches a service's endpoints, as one proxy sees them.
type Guard struct{}

// Check tells how a watch is wrong.
func Check(w api.Watch) api.Errno { return 0 }

// New is a guard of endpoints.
func New(w api.Watch, ids []int) *Guard { return nil }

// Keep is which endpoints there are from now on.
func (g *Guard) Keep(ids []int) {}

// Note notes how an attempt went, and tells whether the endpoint was ejected by that.
func (g *Guard) Note(now, id int, well bool, took int) bool { return false }

// Tick lets time pass: those that are ejected by their windows, and those that are taken back.
func (g *Guard) Tick(now int) (out, back []int) { return nil, nil }

// Well are those that are not ejected, rising.
func (g *Guard) Well() []int { return nil }

// Until is when an endpoint is taken back; 0: it is not ejected.
func (g *Guard) Until(id int) int { return 0 }

// Times is how often an endpoint was ejected, less what was forgiven.
func (g *Guard) Times(id int) int { return 0 }
