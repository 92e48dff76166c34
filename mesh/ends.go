package mesh

import (
	"slices"

	"pursebearer/api"
	"pursebearer/ctx"
	"pursebearer/sample"
	"pursebearer/server"
)

// end is an endpoint.
type end struct {
	id, service, zone int
	s                 *server.Server
	cert              api.Cert
	met               map[string]met // attempts that were not answered yet, by their names
}

// met is what an endpoint knows of an attempt.
type met struct {
	proxy int // that sent it
	heads []api.Head
	begun bool
	from  int // when its work began
	kids  int // how many calls it made
}

// job is an attempt whose work ended well, and that waits for its calls.
type job struct {
	e    *end
	c    api.Ctx
	left int // calls that are not over
	well bool
}

// end is the endpoint of a node, if there is one.
func (m *Mesh) end(node int) *end {
	i := slices.IndexFunc(m.ends, func(e *end) bool { return endNode+e.id == node })
	if i < 0 {
		return nil
	}
	return m.ends[i]
}

// event is what all events of an endpoint tell.
func (e *end) event(kind int, c api.Ctx) api.Event {
	return api.Event{Kind: kind, C: c, Node: endNode + e.id}
}

// reach is that an attempt comes to an endpoint.
func (m *Mesh) reach(e *end, c api.Ctx, from int, heads []api.Head) {
	outs, fresh := e.s.Come(m.now, c)
	if fresh {
		e.met[ctx.Span(c)] = met{proxy: from, heads: heads}
		x := e.event(api.EvReach, c)
		x.Service = e.service
		m.note(x)
	}
	m.does(e, outs)
}

// step lets a tick pass for an endpoint.
func (m *Mesh) step(e *end) {
	_, paused := m.link.On(api.Pause, endNode+e.id, m.now)
	sick, _ := m.link.On(api.Sick, endNode+e.id, m.now)
	lazy := 1
	if f, ok := m.link.On(api.Lazy, endNode+e.id, m.now); ok {
		lazy = f.N
	}
	m.does(e, e.s.Step(m.now, paused, sick.N, lazy))
}

// does does what an endpoint's server tells.
func (m *Mesh) does(e *end, outs []server.Out) {
	for _, o := range outs {
		if do, ok := m.serverDoes[o.What]; ok {
			do(e, o)
		}
	}
}

func (m *Mesh) began(e *end, o server.Out) {
	name := ctx.Span(o.C)
	x := e.met[name]
	x.begun, x.from = true, m.now
	e.met[name] = x
	v := e.event(api.EvStart, o.C)
	v.Service = e.service
	m.note(v)
	m.log.Note(api.Span{Name: name, Service: e.service, From: m.now})
}

func (m *Mesh) worked(e *end, o server.Out) {
	if o.Effect {
		v := e.event(api.EvEffect, o.C)
		v.Service, v.Key = e.service, ctx.Key(o.C)
		m.note(v)
	}
	kids := m.kids(e, o.C)
	if len(kids) == 0 {
		m.answered(e, o.C, api.OK)
		return
	}
	name := ctx.Span(o.C)
	x := e.met[name]
	x.kids = len(kids)
	e.met[name] = x
	m.jobs[name] = &job{e: e, c: o.C, left: len(kids), well: true}
	for i, path := range kids {
		kid := ctx.Kid(o.C, i, len(kids), m.c.Hop)
		m.ledger.Move(name, kid.Call, kid.Purse)
		m.told(e.service, m.proxies[e.service].Call(m.now, kid, path, x.heads, e.zone))
	}
}

// kids are the paths that an attempt calls, by the version that it carries.
func (m *Mesh) kids(e *end, c api.Ctx) []string {
	s, ok := m.plane.Snap(c.Version)
	if !ok || c.Shadow {
		return nil
	}
	x, _ := s.Service(e.service)
	return x.Kids
}

func (m *Mesh) failed(e *end, o server.Out) { m.answered(e, o.C, o.E) }

// kidEnds is that a call of a job is over.
func (m *Mesh) kidEnds(name string, e api.Errno) {
	j := m.jobs[name]
	if j == nil {
		return
	}
	j.left--
	j.well = j.well && e == api.OK
	if j.left > 0 {
		return
	}
	delete(m.jobs, name)
	if j.well {
		m.answered(j.e, j.c, api.OK)
	} else {
		m.answered(j.e, j.c, api.ErrFail)
	}
}

// answered answers an attempt, and lets its span be collected.
func (m *Mesh) answered(e *end, c api.Ctx, errno api.Errno) {
	name := ctx.Span(c)
	x := e.met[name]
	delete(e.met, name)
	if !c.Shadow {
		m.post(endNode+e.id, x.proxy, func() { m.hears(x.proxy, name, errno) })
	}
	if !x.begun || errno == api.OK && !sample.Head(c.Req, m.c.Sample) {
		return
	}
	s := api.Span{Name: name, Service: e.service, From: x.from, To: m.now, Well: errno == api.OK, Kids: x.kids}
	come := func() {
		m.note(e.event(api.EvSpan, c))
		m.collector.Take(s)
	}
	if !m.post(endNode+e.id, collectorNode, come) {
		m.note(e.event(api.EvLost, c))
	}
}

// crash takes what an endpoint has; its jobs' calls go on.
func (m *Mesh) crash(e *end) {
	e.s.Crash(m.now)
	e.met = map[string]met{}
	for name, j := range m.jobs {
		if j.e == e {
			delete(m.jobs, name)
		}
	}
}
