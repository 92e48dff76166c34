// Package plane is layer 17: who has which version.
package plane

import (
	"pursebearer/api"
	"pursebearer/snap"
)

// Plane is the control plane.
type Plane struct{}

// New is one without versions, with proxies from 0 to below so many.
func New(proxies int) *Plane { return nil }

// Publish makes a version of a configuration.
func (p *Plane) Publish(c api.Conf) (int, api.Errno) { return 0, 0 }

// Next is the version that is to be sent to a proxy.
func (p *Plane) Next(proxy int) (*snap.Snap, bool) { return nil, false }

// Ack notes that a proxy has a version; Nack that it refuses it.
func (p *Plane) Ack(proxy, version int) api.Errno { return 0 }

// Nack notes that a proxy refuses a version.
func (p *Plane) Nack(proxy, version int) api.Errno { return 0 }

// Live is the newest version that all proxies have; 0: there is none.
func (p *Plane) Live() int { return 0 }

// Pin notes a request that began at a version; Unpin that it is over.
func (p *Plane) Pin(version int) api.Errno { return 0 }

// Unpin notes that a request that began at a version is over.
func (p *Plane) Unpin(version int) api.Errno { return 0 }

// Drop are the versions that may be dropped now, rising; they are.
func (p *Plane) Drop() []int { return nil }

// Snap is a version that was not dropped.
func (p *Plane) Snap(version int) (*snap.Snap, bool) { return nil, false }
