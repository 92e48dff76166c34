// Package mesh is layer 34: a mesh that runs.
package mesh

import (
	"slices"

	"pursebearer/api"
	"pursebearer/cert"
	"pursebearer/collect"
	"pursebearer/copies"
	"pursebearer/dedup"
	"pursebearer/draw"
	"pursebearer/lease"
	"pursebearer/link"
	"pursebearer/plane"
	"pursebearer/proxy"
	"pursebearer/purse"
	"pursebearer/server"
	"pursebearer/trace"
)

const (
	proxies       = api.MaxServices + 1 // 0 is of what comes from outside
	endNode       = 100                 // and the endpoint's ID
	planeNode     = 200
	limiterNode   = 201
	collectorNode = 202
)

// Mesh is a mesh that runs.
type Mesh struct {
	c     api.Conf
	lines []api.Line
	now   int
	link  *link.Link
	rows  map[int][]func() // messages, each what it does when it comes, by the tick at which it does

	authority *cert.Authority
	plane     *plane.Plane
	proxies   []*proxy.Proxy
	sent      map[[2]int]int           // when a version was sent to a proxy last
	limiters  map[int][]*lease.Limiter // by version

	ends   []*end               // by rising IDs
	tables map[int]*dedup.Table // by service
	jobs   map[string]*job      // by the attempt's name

	ledger    *purse.Ledger
	log       *trace.Log
	collector *collect.Collector
	events    []api.Event
	answers   map[int]answer // by request

	lineDoes   map[int]func(api.Line)
	proxyDoes  map[int]func(from int, a proxy.Act)
	serverDoes map[int]func(e *end, o server.Out)
}

// answer is what a request was answered, and when.
type answer struct {
	e  api.Errno
	at int
}

// New is a mesh of a configuration, with a script, and draws of a seed.
func New(c api.Conf, l []api.Line, seed uint64, said []uint64) (*Mesh, api.Errno) {
	m := &Mesh{
		rows: map[int][]func(){}, authority: cert.New(), plane: plane.New(proxies),
		sent: map[[2]int]int{}, limiters: map[int][]*lease.Limiter{}, tables: map[int]*dedup.Table{}, jobs: map[string]*job{},
		ledger: purse.New(), log: &trace.Log{}, collector: collect.New(), answers: map[int]answer{},
	}
	version, e := m.plane.Publish(c)
	if e != api.OK {
		return nil, e
	}
	s, _ := m.plane.Snap(version)
	m.c = s.C
	m.lines = copies.Lines(l)
	m.link = link.New(c.Hop, faults(l))
	d := draw.New(seed, said)
	for n := range proxies {
		p := proxy.New(n, d, m.authority)
		p.Apply(s)
		m.plane.Ack(n, version)
		m.proxies = append(m.proxies, p)
	}
	m.lineDoes = map[int]func(api.Line){api.DoAsk: m.ask, api.DoFault: m.faultBegins, api.DoPublish: m.publish, api.DoRotate: m.rotate}
	m.proxyDoes = map[int]func(int, proxy.Act){
		proxy.Sends: m.sends, proxy.Ends: m.callEnds, proxy.Asks: m.asksLease, proxy.Routes: m.routes,
		proxy.Ejects: m.ejects, proxy.Backs: m.backs, proxy.Admits: m.admits, proxy.Sheds: m.sheds,
	}
	m.serverDoes = map[int]func(*end, server.Out){server.Began: m.began, server.Worked: m.worked, server.Failed: m.failed}
	m.comes(version)
	return m, api.OK
}

func faults(l []api.Line) []api.Fault {
	var out []api.Fault
	for _, x := range l {
		if x.Do == api.DoFault {
			out = append(out, x.F)
		}
	}
	return out
}

// post sends a message, and tells whether it comes ever.
func (m *Mesh) post(from, to int, come func()) bool {
	ticks := m.link.Send(m.now, from, to)
	for _, at := range ticks {
		m.rows[at] = append(m.rows[at], come)
	}
	return len(ticks) > 0
}

// note notes an event, that happens now.
func (m *Mesh) note(e api.Event) {
	e.At = m.now
	m.events = append(m.events, e)
}

// Step lets a tick pass; false: it is at its end.
func (m *Mesh) Step() bool {
	if m.now >= api.MaxSteps {
		return false
	}
	m.script()
	for _, come := range m.rows[m.now] {
		come()
	}
	delete(m.rows, m.now)
	for n, p := range m.proxies {
		m.told(n, p.Tick(m.now))
	}
	for _, e := range m.ends {
		m.step(e)
	}
	m.hand()
	m.now++
	return true
}

// Run lets ticks pass up to one.
func (m *Mesh) Run(to int) {
	for m.now < to && m.Step() {
	}
}

// Now is the tick that comes next.
func (m *Mesh) Now() int { return m.now }

// Events are what happened.
func (m *Mesh) Events() []api.Event { return slices.Clone(m.events) }

// Answer is what a request was answered, and when.
func (m *Mesh) Answer(req int) (api.Errno, int, bool) {
	a, ok := m.answers[req]
	return a.e, a.at, ok
}

// Well are a service's endpoints that a proxy does not eject.
func (m *Mesh) Well(proxy, service int) []int {
	if proxy < 0 || proxy >= len(m.proxies) {
		return nil
	}
	return m.proxies[proxy].Well(service)
}

// Queues is how many wait, anywhere.
func (m *Mesh) Queues() int {
	n := 0
	for _, p := range m.proxies {
		for service := range proxies {
			n += p.Waiting(service)
		}
	}
	for _, e := range m.ends {
		n += e.s.Waiting()
	}
	return n
}

// Alive is how many calls are under way, anywhere.
func (m *Mesh) Alive() int {
	n := len(m.jobs)
	for _, p := range m.proxies {
		n += p.Calls()
	}
	for _, e := range m.ends {
		n += e.s.Working()
	}
	return n
}

// Log is what truly happened; Collector what came of it.
func (m *Mesh) Log() *trace.Log { return m.log }

// Collector is what came of it.
func (m *Mesh) Collector() *collect.Collector { return m.collector }

// Purse is what is held, and what was spent, of a request's allowance.
func (m *Mesh) Purse(req int) (held, spent int) { return m.ledger.Sum(req) }
