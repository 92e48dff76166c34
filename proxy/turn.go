package proxy

import (
	"maps"
	"slices"

	"pursebearer/admit"
	"pursebearer/api"
	"pursebearer/call"
	"pursebearer/choose"
	"pursebearer/ctx"
	"pursebearer/draw"
	"pursebearer/split"
	"pursebearer/zones"
)

// turn is what a proxy does at one time it is asked, and what it tells.
type turn struct {
	*Proxy
	now  int
	acts []Act
}

func (t *turn) say(a Act) { t.acts = append(t.acts, a) }

// watch lets time pass for a version's guards.
func (t *turn) watch(v *version) {
	for _, service := range slices.Sorted(maps.Keys(v.parts)) {
		out, back := v.parts[service].guard.Tick(t.now)
		for _, id := range out {
			t.say(Act{What: Ejects, To: id, Service: service})
		}
		for _, id := range back {
			t.say(Act{What: Backs, To: id, Service: service})
		}
	}
}

// admit is that a rate admits a call.
func (t *turn) admit(f *flow) {
	t.say(Act{What: Admits, C: f.c, N: f.rule.Rate})
	t.goOn(f)
}

// goOn lets a call begin, at once or delayed.
func (t *turn) goOn(f *flow) {
	f.bucket.Fresh()
	x := f.rule.Inject
	if x.Ticks > 0 && split.Each(x.Delay, f.count) {
		t.alarms.Set(min(t.now+x.Ticks, f.c.Deadline), f.id)
		return
	}
	t.wake(f)
}

// wake lets a call begin, or wakes it, if it began.
func (t *turn) wake(f *flow) {
	if f.begun {
		t.become(f, f.k.Wake(t.now))
		return
	}
	f.begun = true
	t.become(f, f.k.Begin(t.now))
}

// become does what a call tells: each thing, with all that comes of it, ahead of the next one.
func (t *turn) become(f *flow, l []call.Act) {
	for _, a := range l {
		if a.What == call.Wakes {
			t.alarms.Set(a.At, f.id)
		}
	}
	if over, _ := f.k.Over(); over {
		t.alarms.Stop(f.id)
	}
	does := map[int]func(*flow, call.Act){call.Sends: t.letIn, call.Drops: t.drop, call.Ends: t.end}
	for _, a := range l {
		if do, ok := does[a.What]; ok {
			do(f, a)
		}
	}
}

func (t *turn) end(f *flow, a call.Act) { t.over(f, a.E) }

// over is that a call is over.
func (t *turn) over(f *flow, e api.Errno) {
	delete(t.flows, f.id)
	t.say(Act{What: Ends, C: f.c, E: e})
}

// letIn lets an attempt enter its gate.
func (t *turn) letIn(f *flow, told call.Act) {
	if !slices.Contains(f.k.Open(), told.C.Try) {
		return
	}
	t.items++
	a := &attempt{c: told.C, f: f, item: t.items, gated: true, waits: true}
	t.attempts[a.item] = a
	t.names[a.name()] = a.item
	what, other, is := f.v.part(f.service).gate.Enter(api.Item{ID: a.item, Prio: a.c.Prio, Flow: a.c.Req})
	switch {
	case what == admit.Runs:
		t.sendOut(a)
	case what == admit.Shed:
		t.shed(a)
	case is:
		t.shed(t.attempts[other.ID])
	}
}

// shed is that an attempt is shed: the gate has it no more.
func (t *turn) shed(a *attempt) {
	a.gated = false
	t.say(Act{What: Sheds, C: a.c})
	t.settle(a, api.ErrShed, 0)
}

// letOn sends out those that a gate let go on, as far as they are the proxy's still.
func (t *turn) letOn(items []int) {
	for _, item := range items {
		if a := t.attempts[item]; a != nil {
			t.sendOut(a)
		}
	}
}

// sendOut sends an attempt to an endpoint.
func (t *turn) sendOut(a *attempt) {
	a.waits = false
	f := a.f
	if t.now >= a.c.Deadline {
		t.settle(a, api.ErrLate, 0)
		return
	}
	end, ok := t.choose(f, f.service, a.c)
	if !ok {
		t.settle(a, api.ErrDown, 0)
		return
	}
	if e := t.a.Check(t.certs[end], f.service, t.now); e != api.OK {
		t.note(f, end, false, 0)
		t.settle(a, e, 0)
		return
	}
	f.v.part(f.service).loads[end]++
	a.sent, a.end, a.at = true, end, t.now
	t.send(f, a.c, end, f.service)
	if a.c.Try == 1 && !f.c.Shadow && f.rule.Mirror != 0 {
		t.mirror(f)
	}
}

func (t *turn) send(f *flow, c api.Ctx, end, service int) {
	t.say(Act{What: Sends, C: c, To: end, Service: service, Path: f.path, Heads: slices.Clone(f.heads)})
}

// mirror sends a copy of a call, of which nothing is noted.
func (t *turn) mirror(f *flow) {
	c := ctx.Try(ctx.Copy(f.c), 1, 0)
	if end, ok := t.choose(f, f.rule.Mirror, c); ok {
		t.send(f, c, end, f.rule.Mirror)
	}
}

// choose is the endpoint of a service that gets an attempt.
func (t *turn) choose(f *flow, service int, c api.Ctx) (int, bool) {
	v := f.v
	s, _ := v.Service(service)
	part := v.part(service)
	some := zones.Among(v.Ends(service), part.guard.Well(), f.zone, v.C.Panic, t.d.Below(100))
	return choose.Pick(s.Balance, v.Ring(service), some, draw.Hash(ctx.Key(c)), part.load(), t.d)
}

// note tells the guard how an attempt went.
func (t *turn) note(f *flow, end int, well bool, took int) {
	if f.v.part(f.service).guard.Note(t.now, end, well, took) {
		t.say(Act{What: Ejects, To: end, Service: f.service})
	}
}

// settle settles an attempt, and tells its call.
func (t *turn) settle(a *attempt, e api.Errno, not int) {
	on := t.leave(a, e)
	t.become(a.f, a.f.k.Answer(t.now, a.c.Try, e, not))
	t.letOn(on)
}

// drop is that a call waits for an attempt no more, which it knows: it is not told again.
func (t *turn) drop(f *flow, told call.Act) {
	a := t.attempts[t.names[ctx.Span(told.C)]]
	if a == nil {
		return
	}
	if told.E == api.ErrTime {
		t.letOn(t.leave(a, api.ErrTime))
		return
	}
	part := t.forget(a)
	t.letOn(part.gate.Gone(a.item))
}

// forget is that an attempt is the proxy's no more.
func (t *turn) forget(a *attempt) *part {
	delete(t.attempts, a.item)
	delete(t.names, a.name())
	part := a.f.v.part(a.f.service)
	if a.sent {
		part.free(a.end)
	}
	return part
}

// leave takes an attempt away that was settled with an error, and tells whom its gate lets go on.
func (t *turn) leave(a *attempt, e api.Errno) []int {
	part := t.forget(a)
	took := max(1, t.now-a.at)
	tells := e == api.OK || e == api.ErrFail || e == api.ErrTime
	if a.sent && tells {
		t.note(a.f, a.end, e == api.OK, took)
	}
	switch {
	case a.sent && (tells || e == api.ErrFull):
		return part.gate.Done(t.now, a.item, took, e == api.OK)
	case a.gated:
		return part.gate.Gone(a.item)
	}
	return nil
}
