package mesh

import (
	"slices"

	"pursebearer/api"
	"pursebearer/ctx"
	"pursebearer/dedup"
	"pursebearer/lease"
	"pursebearer/server"
)

const (
	overlap = 100 // ticks for which older roots are trusted behind a rotation
	resend  = 20  // ticks behind which a version is sent to a proxy again
	outside = 1   // the zone of what comes from outside
)

// script lets the script's lines happen.
func (m *Mesh) script() {
	for _, x := range m.lines {
		if x.Do == api.DoFault && x.F.To == m.now {
			m.faultEnds(x.F)
		}
	}
	for _, x := range m.lines {
		if do, ok := m.lineDoes[x.Do]; ok && happens(x) == m.now {
			do(x)
		}
	}
}

// happens is when a line happens.
func happens(x api.Line) int {
	switch x.Do {
	case api.DoAsk:
		return x.R.At
	case api.DoFault:
		return x.F.From
	}
	return x.At
}

func (m *Mesh) faultBegins(x api.Line) {
	switch e := m.end(x.F.A); {
	case x.F.Kind == api.Forget:
		for _, l := range m.limiters {
			for _, limiter := range l {
				limiter.Forget(m.now)
			}
		}
	case e == nil:
	case x.F.Kind == api.Crash:
		m.crash(e)
	case x.F.Kind == api.Untrusted:
		m.authority.Revoke(e.cert.Serial)
	}
}

func (m *Mesh) faultEnds(f api.Fault) {
	switch e := m.end(f.A); {
	case e == nil:
	case f.Kind == api.Crash:
		e.s.Up(m.now)
	case f.Kind == api.Untrusted:
		m.certify(e)
	}
}

// publish publishes a configuration, unless it says otherwise of an endpoint that there is.
func (m *Mesh) publish(x api.Line) {
	for _, y := range x.C.Ends {
		if e := m.end(endNode + y.ID); e != nil && e.service != y.Service {
			return
		}
	}
	if version, e := m.plane.Publish(x.C); e == api.OK {
		m.comes(version)
	}
}

// comes makes what there is of a version that was published.
func (m *Mesh) comes(version int) {
	s, _ := m.plane.Snap(version)
	for _, r := range s.C.Rates {
		m.limiters[version] = append(m.limiters[version], lease.NewLimiter(r))
	}
	for _, x := range sorted(s.C.Ends) {
		if m.end(endNode+x.ID) != nil {
			continue
		}
		service, _ := s.Service(x.Service)
		if m.tables[x.Service] == nil {
			m.tables[x.Service] = dedup.New(m.c.Horizon)
		}
		e := &end{id: x.ID, service: x.Service, zone: x.Zone, s: server.New(service, m.tables[x.Service]), met: map[string]met{}}
		m.ends = append(m.ends, e)
		m.certify(e)
	}
	slices.SortFunc(m.ends, func(a, b *end) int { return a.id - b.id })
}

func sorted(l []api.End) []api.End {
	l = slices.Clone(l)
	slices.SortFunc(l, func(a, b api.End) int { return a.ID - b.ID })
	return l
}

// certify gives an endpoint a new certificate.
func (m *Mesh) certify(e *end) {
	e.cert = m.authority.Issue(e.service, m.now, api.MaxTime)
	for _, p := range m.proxies {
		p.Cert(e.id, e.cert)
	}
}

func (m *Mesh) rotate(api.Line) {
	m.authority.Rotate(m.now, overlap)
	for _, e := range m.ends {
		m.certify(e)
	}
}

// ask lets a fresh request come.
func (m *Mesh) ask(x api.Line) {
	version := m.plane.Live()
	s, _ := m.plane.Snap(version)
	c := ctx.Root(x.R, version, s.C)
	m.note(api.Event{Kind: api.EvAsk, C: c})
	m.plane.Pin(version)
	m.ledger.Mint(c.Req, c.Purse)
	m.told(0, m.proxies[0].Call(m.now, c, x.R.Path, x.R.Heads, outside))
}

// hand sends versions to the proxies that lack them, and takes away those that nobody needs.
func (m *Mesh) hand() {
	for n := range m.proxies {
		s, ok := m.plane.Next(n)
		if !ok {
			continue
		}
		way := [2]int{n, s.Version}
		if at, is := m.sent[way]; is && m.now-at < resend {
			continue
		}
		m.sent[way] = m.now
		m.post(planeNode, n, func() {
			e := m.proxies[n].Apply(s)
			m.post(n, planeNode, func() { m.acked(n, s.Version, e) })
		})
	}
	for _, version := range m.plane.Drop() {
		delete(m.limiters, version)
		for n, p := range m.proxies {
			delete(m.sent, [2]int{n, version})
			p.Drop(version)
		}
	}
}

// acked is that the plane hears what a proxy said of a version.
func (m *Mesh) acked(n, version int, e api.Errno) {
	if e == api.OK || e == api.ErrTwice {
		m.plane.Ack(n, version)
	} else {
		m.plane.Nack(n, version)
	}
}
