// Package plane is layer 17: who has which version.
package plane

import (
	"pursebearer/api"
	"pursebearer/snap"
)

// What a proxy said of a version.
const (
	nothing = iota
	acked
	nacked
)

// Plane is the control plane.
type Plane struct {
	proxies  int
	versions []version           // the version n stands at n - 1
	said     map[int]map[int]int // by proxy, and version
}

type version struct {
	s          *snap.Snap // nil: it was dropped
	acks, pins int
}

// New is one without versions, with proxies from 0 to below so many.
func New(proxies int) *Plane {
	return &Plane{proxies: proxies, said: map[int]map[int]int{}}
}

// Publish makes a version of a configuration.
func (p *Plane) Publish(c api.Conf) (int, api.Errno) {
	if e := snap.Check(c); e != api.OK {
		return 0, e
	}
	n := len(p.versions) + 1
	if n > api.MaxVersions {
		return 0, api.ErrFull
	}
	s, e := snap.New(n, c)
	if e != api.OK {
		return 0, e
	}
	p.versions = append(p.versions, version{s: s})
	return n, api.OK
}

// greatest is the greatest version of which something is so; 0: there is none.
func (p *Plane) greatest(is func(n int) bool) int {
	for n := len(p.versions); n > 0; n-- {
		if is(n) {
			return n
		}
	}
	return 0
}

func (p *Plane) proxy(n int) bool { return n >= 0 && n < p.proxies }

func (p *Plane) made(version int) bool { return version >= 1 && version <= len(p.versions) }

// Next is the version that is to be sent to a proxy.
func (p *Plane) Next(proxy int) (*snap.Snap, bool) {
	if !p.proxy(proxy) {
		return nil, false
	}
	said := p.said[proxy]
	next := p.greatest(func(n int) bool { return said[n] == nothing })
	has := p.greatest(func(n int) bool { return said[n] == acked })
	if next <= has {
		return nil, false
	}
	return p.Snap(next)
}

// Ack notes that a proxy has a version; Nack that it refuses it.
func (p *Plane) Ack(proxy, version int) api.Errno {
	e := p.say(proxy, version, acked)
	if e == api.OK {
		p.versions[version-1].acks++
	}
	return e
}

// Nack notes that a proxy refuses a version.
func (p *Plane) Nack(proxy, version int) api.Errno {
	return p.say(proxy, version, nacked)
}

func (p *Plane) say(proxy, version, what int) api.Errno {
	switch {
	case !p.proxy(proxy):
		return api.ErrArg
	case !p.made(version):
		return api.ErrVersion
	case p.said[proxy][version] != nothing:
		return api.ErrTwice
	}
	if p.said[proxy] == nil {
		p.said[proxy] = map[int]int{}
	}
	p.said[proxy][version] = what
	return api.OK
}

// Live is the newest version that all proxies have; 0: there is none.
func (p *Plane) Live() int {
	all := max(0, p.proxies)
	return p.greatest(func(n int) bool { return p.versions[n-1].acks == all })
}

// Pin notes a request that began at a version; Unpin that it is over.
func (p *Plane) Pin(version int) api.Errno {
	if version == 0 || version != p.Live() {
		return api.ErrVersion
	}
	p.versions[version-1].pins++
	return api.OK
}

// Unpin notes that a request that began at a version is over.
func (p *Plane) Unpin(version int) api.Errno {
	if !p.made(version) || p.versions[version-1].pins == 0 {
		return api.ErrVersion
	}
	p.versions[version-1].pins--
	return api.OK
}

// Drop are the versions that may be dropped now, rising; they are.
func (p *Plane) Drop() []int {
	var gone []int
	for n := 1; n < p.Live(); n++ {
		if v := &p.versions[n-1]; v.s != nil && v.pins == 0 {
			v.s = nil
			gone = append(gone, n)
		}
	}
	return gone
}

// Snap is a version that was not dropped.
func (p *Plane) Snap(version int) (*snap.Snap, bool) {
	if !p.made(version) {
		return nil, false
	}
	s := p.versions[version-1].s
	return s, s != nil
}
