// Package server is layer 26: an endpoint.
package server

import (
	"pursebearer/api"
	"pursebearer/dedup"
)

// What becomes of an attempt.
const (
	Began  = 1 + iota // its work began
	Worked            // its work ended: it goes on with its calls
	Failed            // it is answered with E
)

// Out is what became of an attempt.
type Out struct {
	What   int
	C      api.Ctx
	Effect bool
	E      api.Errno
}

// Server is an endpoint.
type Server struct{}

// New is an endpoint of a service.
func New(s api.Service, t *dedup.Table) *Server { return nil }

// Come is an attempt that comes: false: it came already. What is shed for it, or itself, fails at once.
func (s *Server) Come(now int, c api.Ctx) (outs []Out, fresh bool) { return nil, false }

// Step lets a tick pass: sick, lazy and paused as faults say (sick: each so many-th work fails; lazy: work takes so many times as long, from its beginning on; 1: as ever).
func (s *Server) Step(now int, paused bool, sick, lazy int) []Out { return nil }

// Crash loses all.
func (s *Server) Crash(now int) {}

// Down tells whether it is down; Up lets it begin anew, with one slot.
func (s *Server) Down() bool { return false }

// Up lets it begin anew.
func (s *Server) Up(now int) {}

// Waiting is how many wait; Working how many it works at; Slots how many it may.
func (s *Server) Waiting() int { return 0 }

// Working is how many it works at.
func (s *Server) Working() int { return 0 }

// Slots is how many it may work at, at a tick.
func (s *Server) Slots(now int) int { return 0 }
