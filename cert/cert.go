// Package cert is layer 15: certificates.
package cert

import (
	"pursebearer/api"
)

// Authority gives out certificates, and knows which are trusted.
type Authority struct {
	until   []int // of each root but the newest one: up to when it is trusted
	given   []api.Cert
	revoked map[int]bool // by serial
}

// New is one with a root, that is trusted for ever.
func New() *Authority { return &Authority{revoked: map[int]bool{}} }

// newest is the number of the newest root.
func (a *Authority) newest() int { return len(a.until) + 1 }

// Issue is a certificate of the newest root.
func (a *Authority) Issue(service, now, life int) api.Cert {
	c := api.Cert{Serial: len(a.given) + 1, Root: a.newest(), Service: service, From: now, To: now + life}
	a.given = append(a.given, c)
	return c
}

// Rotate makes a new root; older ones are trusted for so many ticks more.
func (a *Authority) Rotate(now, over int) int {
	end := now + over
	for i, u := range a.until {
		a.until[i] = min(u, end)
	}
	a.until = append(a.until, end)
	return a.newest()
}

// Revoke revokes a certificate.
func (a *Authority) Revoke(serial int) bool {
	if serial < 1 || serial > len(a.given) || a.revoked[serial] {
		return false
	}
	a.revoked[serial] = true
	return true
}

// fault is something that may be wrong, and the error that tells it.
type fault struct {
	is func() bool
	e  api.Errno
}

// Check tells how a certificate is wrong, for a service, at a tick.
func (a *Authority) Check(c api.Cert, service, now int) api.Errno {
	return first(
		fault{func() bool { return !a.gave(c) }, api.ErrCert},
		fault{func() bool { return c.Service != service }, api.ErrCert},
		fault{func() bool { return !a.trusts(c.Root, now) }, api.ErrCert},
		fault{func() bool { return a.revoked[c.Serial] }, api.ErrRevoke},
		fault{func() bool { return now < c.From || now >= c.To }, api.ErrDate},
	)
}

// first is the error of the first fault that is so.
func first(l ...fault) api.Errno {
	for _, f := range l {
		if f.is() {
			return f.e
		}
	}
	return api.OK
}

func (a *Authority) gave(c api.Cert) bool {
	return c.Serial >= 1 && c.Serial <= len(a.given) && a.given[c.Serial-1] == c
}

func (a *Authority) trusts(root, now int) bool {
	return root == a.newest() || root >= 1 && root < a.newest() && now < a.until[root-1]
}

// Roots are those that are trusted at a tick.
func (a *Authority) Roots(now int) []int {
	var l []int
	for root := 1; root <= a.newest(); root++ {
		if a.trusts(root, now) {
			l = append(l, root)
		}
	}
	return l
}
