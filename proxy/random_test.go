package proxy

import (
	"math/rand"
	"testing"

	"pursebearer/api"
	"pursebearer/ctx"
)

func randomConf(r *rand.Rand) api.Conf {
	c := conf()
	c.Ends = nil
	for id := 1; id < 6; id++ {
		c.Ends = append(c.Ends, api.End{ID: id, Service: 1 + r.Intn(2), Zone: 1 + r.Intn(2)})
	}
	for i := range c.Services {
		c.Services[i].Balance = api.ByTwo + r.Intn(3)
	}
	for i := range c.Rules {
		x := &c.Rules[i]
		x.Parts = []api.Part{{Service: 1, Weight: 1}, {Service: 2, Weight: r.Intn(2)}}
		x.Mirror = r.Intn(3)
		x.Inject = api.Inject{Abort: r.Intn(2) * 5, Delay: r.Intn(2) * 3, Ticks: r.Intn(9)}
		x.P = api.Policy{Timeout: 1 + r.Intn(20), Tries: 1 + r.Intn(8), Back: r.Intn(4), Hedge: r.Intn(6), Budget: api.Budget{Per: 1, Of: 1 + r.Intn(3), Burst: r.Intn(8)}}
		x.Rate = r.Intn(2)
	}
	c.Rates = []api.Rate{{Limit: 5, Window: 10, Slice: 2}}
	c.Low = 1 + r.Intn(3)
	c.High = c.Low + r.Intn(3)
	c.Wait = r.Intn(4)
	c.Panic = r.Intn(101)
	c.Watch = api.Watch{Errors: 1 + r.Intn(3), Window: 20, Dev: r.Intn(2) * 10, Slow: r.Intn(2) * 9, Share: r.Intn(101), Base: 5, Top: 20}
	return c
}

// seen is what was told of calls.
type seen struct {
	t        *testing.T
	r        *rand.Rand
	p        *Proxy
	over     map[string]bool
	service  map[string]int
	deadline map[string]int
	sent     []string
}

func (s *seen) take(now int, l []Act) {
	for _, a := range l {
		switch a.What {
		case Routes:
			if s.service[a.C.Call] != 0 {
				s.t.Fatal("routed twice")
			}
			s.service[a.C.Call] = a.Service
		case Asks:
			s.take(now, s.p.Lease(now, 1, a.N, s.r.Intn(3)))
		case Ends:
			if s.over[a.C.Call] || now > s.deadline[a.C.Call] {
				s.t.Fatal("over", a.C, now)
			}
			s.over[a.C.Call] = true
		case Sends:
			if now >= a.C.Deadline || s.over[a.C.Call] {
				s.t.Fatal("sent", a.C, now)
			}
			if !a.C.Shadow {
				if a.Service != s.service[a.C.Call] {
					s.t.Fatal("another service")
				}
				s.sent = append(s.sent, ctx.Span(a.C))
			}
		}
	}
	for service, part := range s.p.versions[1].parts {
		loads, under, waits := 0, 0, 0
		for _, n := range part.loads {
			loads += n
		}
		for _, a := range s.p.attempts {
			if a.f.service == service && a.sent {
				under++
			} else if a.f.service == service {
				waits++
			}
		}
		high := s.p.versions[1].C.High
		if part.gate.Under() > high || loads != under || part.gate.Under() != under || part.gate.Waiting() != waits || waits != s.p.Waiting(service) {
			s.t.Fatal("gate", part.gate.Under(), loads, under, waits)
		}
	}
}

func TestRandom(t *testing.T) {
	r := rand.New(rand.NewSource(1))
	for range 400 {
		p := made(t, randomConf(r))
		s := &seen{t: t, r: r, p: p, over: map[string]bool{}, service: map[string]int{}, deadline: map[string]int{}}
		id := 0
		for now := range 150 {
			for now < 80 && r.Intn(3) == 0 {
				id++
				c := root(id, now+r.Intn(60))
				c.Prio, c.Purse = r.Intn(4), r.Intn(30)
				s.deadline[c.Call] = c.Deadline
				s.take(now, p.Call(now, c, []string{"/", "/b"}[r.Intn(2)], nil, 1+r.Intn(3)))
			}
			for range r.Intn(4) {
				if len(s.sent) > 0 {
					e := []api.Errno{api.OK, api.OK, api.ErrFail, api.ErrFull, api.ErrLate, api.ErrDown}[r.Intn(6)]
					s.take(now, p.Answer(now, s.sent[r.Intn(len(s.sent))], e, now+r.Intn(5)))
				}
			}
			s.take(now, p.Tick(now))
		}
		if len(s.over) != id || p.Calls() != 0 || len(p.attempts)+len(p.names)+len(p.flows)+p.alarms.Len() != 0 {
			t.Fatal("not over", len(s.over), id, p.Calls(), p.alarms.Len())
		}
	}
}
