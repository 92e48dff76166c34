// Package proxy is layer 32: a proxy.
package proxy

import (
	"maps"
	"slices"

	"pursebearer/alarm"
	"pursebearer/api"
	"pursebearer/cert"
	"pursebearer/draw"
	"pursebearer/snap"
	"pursebearer/split"
)

// What a proxy does.
const (
	Sends  = 1 + iota // the attempt C to the endpoint To, with Path and Heads
	Ends              // the call C is over, with E
	Asks              // it asks for a lease of the rate N
	Routes            // the call C was routed, by the rule N, to Service
	Ejects            // the endpoint To is ejected
	Backs             // the endpoint To is taken back
	Admits            // the rate N admitted the call C
	Sheds             // the attempt C was shed
)

// Act is what a proxy does.
type Act struct {
	What, To, N, Service int
	C                    api.Ctx
	E                    api.Errno
	Path                 string
	Heads                []api.Head
}

// Proxy is the proxy of a service (0: of what comes from outside).
type Proxy struct {
	d        *draw.Draws
	a        *cert.Authority
	certs    map[int]api.Cert // by endpoint
	versions map[int]*version
	had      map[int]bool // all versions that it has, or had
	newest   int          // of these

	flows   map[int]*flow // calls that are under way, by their numbers, which are their alarms'
	started int
	leasing []*flow // those that wait for a lease
	alarms  *alarm.Alarms

	attempts map[int]*attempt // that are its own, by their items
	names    map[string]int   // their items
	items    int
}

// New is a proxy, with draws and an authority.
// Its service is not kept: whose calls it makes changes nothing of what it does.
func New(service int, d *draw.Draws, a *cert.Authority) *Proxy {
	return &Proxy{
		d: d, a: a, certs: map[int]api.Cert{}, versions: map[int]*version{}, had: map[int]bool{},
		flows: map[int]*flow{}, alarms: alarm.New(), attempts: map[int]*attempt{}, names: map[string]int{},
	}
}

// Apply makes it have a version.
func (p *Proxy) Apply(s *snap.Snap) api.Errno {
	switch {
	case p.had[s.Version]:
		return api.ErrTwice
	case len(p.had) > 0 && p.newest > s.Version:
		return api.ErrOrder
	}
	p.had[s.Version] = true
	p.newest = s.Version
	p.versions[s.Version] = newVersion(s)
	return api.OK
}

// Drop takes a version away.
func (p *Proxy) Drop(version int) { delete(p.versions, version) }

// Has tells whether it has a version.
func (p *Proxy) Has(version int) bool { return p.versions[version] != nil }

// Call makes it make a call, in a zone.
func (p *Proxy) Call(now int, c api.Ctx, path string, heads []api.Head, zone int) []Act {
	t := &turn{Proxy: p, now: now}
	v := p.versions[c.Version]
	if v == nil {
		return []Act{{What: Ends, C: c, E: api.ErrVersion}}
	}
	n, ok := v.T.Find(path, heads)
	if !ok {
		return []Act{{What: Ends, C: c, E: api.ErrNone}}
	}
	v.counts[n]++
	f := newFlow(v, n, c, path, heads, zone)
	t.say(Act{What: Routes, C: c, N: n, Service: f.service})
	if split.Each(f.rule.Inject.Abort, f.count) {
		t.say(Act{What: Ends, C: c, E: api.ErrAbort})
		return t.acts
	}
	p.started++
	f.id = p.started
	p.flows[f.id] = f
	switch rate := f.rule.Rate; {
	case rate == 0:
		t.goOn(f)
	case v.clients[rate-1].Use(now):
		t.admit(f)
	default:
		t.say(Act{What: Asks, C: c, N: rate})
		p.leasing = append(p.leasing, f)
	}
	return t.acts
}

// Lease gives it a lease of a rate, of a version's configuration.
func (p *Proxy) Lease(now, version, rate, n int) []Act {
	t := &turn{Proxy: p, now: now}
	v := p.known(version)
	if v == nil || rate < 1 || rate > len(v.clients) {
		return nil
	}
	v.clients[rate-1].Give(now, n)
	var waited, others []*flow
	for _, f := range p.leasing {
		if f.v == v && f.rule.Rate == rate {
			waited = append(waited, f)
		} else {
			others = append(others, f)
		}
	}
	p.leasing = others
	for _, f := range waited {
		if v.clients[rate-1].Use(now) {
			t.admit(f)
		} else {
			t.over(f, api.ErrRate)
		}
	}
	return t.acts
}

// known is a version that it has, or that was dropped while a call waits for a lease of it.
func (p *Proxy) known(number int) *version {
	if v := p.versions[number]; v != nil {
		return v
	}
	for _, f := range p.leasing {
		if f.v.Version == number {
			return f.v
		}
	}
	return nil
}

// Answer is that an attempt (by its name) was answered.
func (p *Proxy) Answer(now int, span string, e api.Errno, not int) []Act {
	t := &turn{Proxy: p, now: now}
	if a := p.attempts[p.names[span]]; a != nil && a.sent {
		t.settle(a, e, not)
	}
	return t.acts
}

// Cert tells it an endpoint's certificate.
func (p *Proxy) Cert(id int, c api.Cert) { p.certs[id] = c }

// Tick lets a tick pass.
func (p *Proxy) Tick(now int) []Act {
	t := &turn{Proxy: p, now: now}
	for _, n := range slices.Sorted(maps.Keys(p.versions)) {
		t.watch(p.versions[n])
	}
	for _, id := range p.alarms.Due(now) {
		if f := p.flows[id]; f != nil {
			t.wake(f)
		}
	}
	return t.acts
}

// Calls is how many calls are under way; Waiting how many attempts wait, for a service.
func (p *Proxy) Calls() int { return len(p.flows) }

// Waiting is how many attempts wait, for a service.
func (p *Proxy) Waiting(service int) int {
	n := 0
	for _, a := range p.attempts {
		if a.waits && a.f.service == service {
			n++
		}
	}
	return n
}

// Well are a service's endpoints that are not ejected.
func (p *Proxy) Well(service int) []int {
	if len(p.versions) == 0 {
		return nil
	}
	v := p.versions[slices.Max(slices.Collect(maps.Keys(p.versions)))]
	if part := v.parts[service]; part != nil {
		return part.guard.Well()
	}
	return v.ids(service)
}
