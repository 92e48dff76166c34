// Package cert is layer 15: certificates.
package cert

import (
	"pursebearer/api"
)

// Authority gives out certificates, and knows which are trusted.
type Authority struct{}

// New is one with a root, that is trusted for ever.
func New() *Authority { return nil }

// Issue is a certificate of the newest root.
func (a *Authority) Issue(service, now, life int) api.Cert { return api.Cert{} }

// Rotate makes a new root; older ones are trusted for so many ticks more.
func (a *Authority) Rotate(now, over int) int { return 0 }

// Revoke revokes a certificate.
func (a *Authority) Revoke(serial int) bool { return false }

// Check tells how a certificate is wrong, for a service, at a tick.
func (a *Authority) Check(c api.Cert, service, now int) api.Errno { return 0 }

// Roots are those that are trusted at a tick.
func (a *Authority) Roots(now int) []int { return nil }
