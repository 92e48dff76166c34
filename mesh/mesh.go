// Package mesh is layer 34: a mesh that runs.
package mesh

import (
	"pursebearer/api"
	"pursebearer/collect"
	"pursebearer/trace"
)

// Mesh is a mesh that runs.
type Mesh struct{}

// New is a mesh of a configuration, with a script, and draws of a seed.
func New(c api.Conf, l []api.Line, seed uint64, said []uint64) (*Mesh, api.Errno) { return nil, 0 }

// Step lets a tick pass; false: it is at its end.
func (m *Mesh) Step() bool { return false }

// Run lets ticks pass up to one.
func (m *Mesh) Run(to int) {}

// Now is the tick that comes next.
func (m *Mesh) Now() int { return 0 }

// Events are what happened.
func (m *Mesh) Events() []api.Event { return nil }

// Answer is what a request was answered, and when.
func (m *Mesh) Answer(req int) (api.Errno, int, bool) { return 0, 0, false }

// Well are a service's endpoints that a proxy does not eject.
func (m *Mesh) Well(proxy, service int) []int { return nil }

// Queues is how many wait, anywhere.
func (m *Mesh) Queues() int { return 0 }

// Alive is how many calls are under way, anywhere.
func (m *Mesh) Alive() int { return 0 }

// Log is what truly happened; Collector what came of it.
func (m *Mesh) Log() *trace.Log { return nil }

// Collector is what came of it.
func (m *Mesh) Collector() *collect.Collector { return nil }

// Purse is what is held, and what was spent, of a request's allowance.
func (m *Mesh) Purse(req int) (held, spent int) { return 0, 0 }
