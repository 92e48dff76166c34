// Package server is layer 26: an endpoint.
package server

import (
	"math"

	"pursebearer/api"
	"pursebearer/ctx"
	"pursebearer/dedup"
	"pursebearer/fair"
	"pursebearer/split"
)

// What becomes of an attempt.
const (
	Began  = 1 + iota // its work began
	Worked            // its work ended: it goes on with its calls
	Failed            // it is answered with E
)

// Out is what became of an attempt.
type Out struct {
	What   int
	C      api.Ctx
	Effect bool
	E      api.Errno
}

// Server is an endpoint.
type Server struct {
	s     api.Service
	t     *dedup.Table
	down  bool
	warms bool // whether it was up behind a crash
	upAt  int
	frail
}

// frail is what a crash takes.
type frail struct {
	queue *fair.Queue
	waits map[int]api.Ctx // by the number of its item
	came  map[string]bool
	works []work
	ended int
	items int
}

// work is an attempt at which it works, and how many ticks are left.
type work struct {
	c    api.Ctx
	left int
}

// New is an endpoint of a service.
func New(s api.Service, t *dedup.Table) *Server {
	s.Kids = nil
	return &Server{s: s, t: t, frail: fresh(s.Queue)}
}

func fresh(most int) frail {
	return frail{queue: fair.New(most), waits: map[int]api.Ctx{}, came: map[string]bool{}}
}

// Come is an attempt that comes: false: it came already. What is shed for it, or itself, fails at once.
func (s *Server) Come(now int, c api.Ctx) (outs []Out, fresh bool) {
	name := ctx.Span(c)
	if s.down || s.came[name] {
		return nil, false
	}
	s.came[name] = true
	s.items++
	s.waits[s.items] = c
	shed, is := s.queue.Put(api.Item{ID: s.items, Prio: c.Prio, Flow: c.Req})
	if is {
		outs = append(outs, Out{What: Failed, C: s.leave(shed.ID), E: api.ErrFull})
	}
	return outs, true
}

// leave tells the attempt of an item that waits no more.
func (s *Server) leave(item int) api.Ctx {
	c := s.waits[item]
	delete(s.waits, item)
	return c
}

// Step lets a tick pass: sick, lazy and paused as faults say (sick: each so many-th work fails; lazy: work takes so many times as long, from its beginning on; 1: as ever).
func (s *Server) Step(now int, paused bool, sick, lazy int) []Out {
	if s.down || paused {
		return nil
	}
	outs := s.work(now, sick)
	for len(s.works) < s.Slots(now) {
		x, ok := s.queue.Take()
		if !ok {
			break
		}
		c := s.leave(x.ID)
		if now >= c.Deadline {
			outs = append(outs, Out{What: Failed, C: c, E: api.ErrLate})
			continue
		}
		s.works = append(s.works, work{c, times(s.s.Work, lazy)})
		outs = append(outs, Out{What: Began, C: c})
	}
	return outs
}

// times is so many ticks, so many times; the greatest int, where that would be more still: neither ever goes by.
func times(ticks, n int) int {
	if n > 0 && ticks > math.MaxInt/n {
		return math.MaxInt
	}
	return ticks * n
}

// work works for a tick at all at which it works.
func (s *Server) work(now, sick int) []Out {
	var outs []Out
	var going []work
	for _, w := range s.works {
		if w.left--; w.left > 0 {
			going = append(going, w)
			continue
		}
		outs = append(outs, s.end(now, w.c, sick))
	}
	s.works = going
	return outs
}

// end is what becomes of an attempt whose work ended.
func (s *Server) end(now int, c api.Ctx, sick int) Out {
	s.ended++
	if split.Each(sick, s.ended) {
		return Out{What: Failed, C: c, E: api.ErrFail}
	}
	return Out{What: Worked, C: c, Effect: !c.Shadow && (c.Idem || s.t.Put(now, ctx.Key(c)))}
}

// Crash loses all.
func (s *Server) Crash(now int) {
	s.down = true
	s.frail = fresh(s.s.Queue)
}

// Down tells whether it is down; Up lets it begin anew, with one slot.
func (s *Server) Down() bool { return s.down }

// Up lets it begin anew.
func (s *Server) Up(now int) {
	if s.down {
		s.down, s.warms, s.upAt = false, true, now
	}
}

// Waiting is how many wait; Working how many it works at; Slots how many it may.
func (s *Server) Waiting() int { return s.queue.Len() }

// Working is how many it works at.
func (s *Server) Working() int { return len(s.works) }

// Slots is how many it may work at, at a tick.
func (s *Server) Slots(now int) int {
	switch {
	case s.down:
		return 0
	case !s.warms || s.s.Warm == 0:
		return s.s.Slots
	}
	return min(s.s.Slots, 1+(now-s.upAt)/s.s.Warm)
}
