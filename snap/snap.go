// Package snap is layer 16: versions of a configuration.
package snap

import (
	"pursebearer/api"
	"pursebearer/ring"
	"pursebearer/route"
)

// Snap is a configuration, ready to be used: a version.
type Snap struct {
	Version int
	C       api.Conf
	T       *route.Table
}

// Check tells how a configuration is wrong.
func Check(c api.Conf) api.Errno { return 0 }

// New is a version of a configuration.
func New(version int, c api.Conf) (*Snap, api.Errno) { return nil, 0 }

// Service is a service.
func (s *Snap) Service(id int) (api.Service, bool) { return api.Service{}, false }

// Ends are a service's endpoints, by their IDs.
func (s *Snap) Ends(service int) []api.End { return nil }

// Ring is a service's ring.
func (s *Snap) Ring(service int) *ring.Ring { return nil }

// Diff are the endpoints that came, and those that went.
func Diff(a, b *Snap) (came, went []int) { return nil, nil }
