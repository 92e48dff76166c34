// Package proxy is layer 32: a proxy.
package proxy

import (
	"pursebearer/api"
	"pursebearer/cert"
	"pursebearer/draw"
	"pursebearer/lease"
	"pursebearer/snap"
)

// What a proxy does.
const (
	Sends  = 1 + iota // the attempt C to the endpoint To, with Path and Heads
	Ends              // the call C is over, with E
	Asks              // it asks for a lease of the rate N
	Routes            // the call C was routed, by the rule N, to Service
	Ejects            // the endpoint To is ejected
	Backs             // the endpoint To is taken back
	Admits            // the rate N admitted the call C
	Sheds             // the attempt C was shed
)

// Act is what a proxy does.
type Act struct {
	What, To, N, Service int
	C                    api.Ctx
	E                    api.Errno
	Path                 string
	Heads                []api.Head
}

// Proxy is the proxy of a service (0: of what comes from outside).
type Proxy struct{}

// New is a proxy, with draws and an authority.
func New(service int, d *draw.Draws, a *cert.Authority) *Proxy { return nil }

// Apply makes it have a version.
func (p *Proxy) Apply(s *snap.Snap) api.Errno { return 0 }

// Drop takes a version away.
func (p *Proxy) Drop(version int) {}

// Has tells whether it has a version.
func (p *Proxy) Has(version int) bool { return false }

// Call makes it make a call, in a zone.
func (p *Proxy) Call(now int, c api.Ctx, path string, heads []api.Head, zone int) []Act { return nil }

// Lease gives it a lease of a rate, of a version's configuration.
func (p *Proxy) Lease(now, version, rate, n int) []Act { return nil }

// Answer is that an attempt (by its name) was answered.
func (p *Proxy) Answer(now int, span string, e api.Errno, not int) []Act { return nil }

// Cert tells it an endpoint's certificate.
func (p *Proxy) Cert(id int, c api.Cert) {}

// Tick lets a tick pass.
func (p *Proxy) Tick(now int) []Act { return nil }

// Calls is how many calls are under way; Waiting how many attempts wait, for a service.
func (p *Proxy) Calls() int { return 0 }

// Waiting is how many attempts wait, for a service.
func (p *Proxy) Waiting(service int) int { return 0 }

// Well are a service's endpoints that are not ejected.
func (p *Proxy) Well(service int) []int { return nil }

var _ = lease.Error
