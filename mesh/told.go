package mesh

import (
	"pursebearer/api"
	"pursebearer/ctx"
	"pursebearer/proxy"
)

const again = 10 // ticks ahead of which what was full is not asked again

// told does what a proxy tells, as it comes.
func (m *Mesh) told(from int, acts []proxy.Act) {
	for _, a := range acts {
		if do, ok := m.proxyDoes[a.What]; ok {
			do(from, a)
		}
	}
}

// hears is that an answer comes to a proxy.
func (m *Mesh) hears(n int, name string, e api.Errno) {
	not := 0
	if e == api.ErrFull {
		not = m.now + again
	}
	m.told(n, m.proxies[n].Answer(m.now, name, e, not))
}

func (m *Mesh) sends(from int, a proxy.Act) {
	m.note(api.Event{Kind: api.EvSend, C: a.C, Node: from})
	if e := m.end(endNode + a.To); e != nil {
		m.post(from, endNode+a.To, func() {
			if !e.s.Down() {
				m.reach(e, a.C, from, a.Heads)
			}
		})
	}
	if a.C.Shadow {
		return
	}
	m.ledger.Move(a.C.Call, ctx.Span(a.C), a.C.Purse)
	if a.C.Try > 1 {
		m.ledger.Spend(a.C.Call, 1)
	}
}

// callEnds is that a call is over: a fresh request's, or a job's.
func (m *Mesh) callEnds(from int, a proxy.Act) {
	if up := ctx.Up(a.C.Call); up != "" {
		m.kidEnds(up, a.E)
		return
	}
	m.note(api.Event{Kind: api.EvAnswer, C: a.C, Node: from, N: int(a.E)})
	m.answers[a.C.Req] = answer{a.E, m.now}
	m.plane.Unpin(a.C.Version)
}

func (m *Mesh) asksLease(from int, a proxy.Act) {
	n := 0
	limiters := m.limiters[a.C.Version]
	if _, out := m.link.On(api.Forget, limiterNode, m.now); !out && a.N <= len(limiters) {
		n = limiters[a.N-1].Ask(m.now)
	}
	m.told(from, m.proxies[from].Lease(m.now, a.C.Version, a.N, n))
}

func (m *Mesh) routes(from int, a proxy.Act) {
	m.note(api.Event{Kind: api.EvRoute, C: a.C, Node: from, Service: a.Service, N: a.N, Key: ctx.Key(a.C)})
}

func (m *Mesh) admits(from int, a proxy.Act) {
	m.note(api.Event{Kind: api.EvAdmit, C: a.C, Node: from, N: a.N})
}

func (m *Mesh) sheds(from int, a proxy.Act) {
	m.note(api.Event{Kind: api.EvShed, C: a.C, Node: from})
}

func (m *Mesh) ejects(from int, a proxy.Act) {
	m.note(api.Event{Kind: api.EvEject, Node: endNode + a.To, Service: a.Service})
}

func (m *Mesh) backs(from int, a proxy.Act) {
	m.note(api.Event{Kind: api.EvBack, Node: endNode + a.To, Service: a.Service})
}
