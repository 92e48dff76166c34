// Package link is layer 27: what messages meet.
package link

import (
	"pursebearer/api"
)

const (
	proxies  = 10 // the greatest number of a proxy
	ends     = 100
	plane    = 200
	limiter  = 201
	collects = 202
	anybody  = -1
)

func node(n int) bool {
	return n >= 0 && n <= proxies || endpoint(n) || n == plane || n == limiter || n == collects
}

func endpoint(n int) bool { return n > ends && n <= ends+api.MaxEnds }

// onWay tells whether faults of a kind meet messages.
func onWay(kind int) bool {
	return kind == api.Lose || kind == api.Slow || kind == api.Double || kind == api.Cut
}

// Check tells how a fault is wrong.
func Check(f api.Fault) api.Errno {
	switch {
	case f.Kind < api.Lose || f.Kind > api.Untrusted:
		return api.ErrArg
	case f.From < 0 || f.To <= f.From || f.To > api.MaxTime:
		return api.ErrRange
	case !node(f.A):
		return api.ErrEnd
	case onWay(f.Kind):
		if f.B != anybody && !node(f.B) || f.B == f.A {
			return api.ErrEnd
		}
	case f.Kind == api.Forget && f.A != limiter || f.Kind != api.Forget && !endpoint(f.A):
		return api.ErrEnd
	case f.B != 0:
		return api.ErrArg
	}
	if low, high := strength(f.Kind); f.N < low || f.N > high {
		return api.ErrArg
	}
	return api.OK
}

// strength is what the N of a kind may be.
func strength(kind int) (low, high int) {
	switch kind {
	case api.Lose, api.Double, api.Sick:
		return 1, api.MaxWait
	case api.Slow, api.Lazy:
		return 1, 20
	}
	return 0, 0
}

// Link is what messages meet.
type Link struct {
	hop    int
	faults []fault
	counts [api.MaxFaults]int // of each fault: the messages that it saw
}

type fault api.Fault

func (f fault) there(now int) bool { return now >= f.From && now < f.To }

// sees tells whether it sees a message that is sent from one node to another one.
func (f fault) sees(now, from, to int) bool {
	return f.there(now) && (f.A == from && (f.B == to || f.B == anybody) || f.A == to && (f.B == from || f.B == anybody))
}

// New is links on which a message takes so many ticks, with faults.
func New(hop int, l []api.Fault) *Link {
	k := &Link{hop: hop}
	for _, f := range l[:min(len(l), api.MaxFaults)] {
		k.faults = append(k.faults, fault(f))
	}
	return k
}

// Send is when a message comes, from one node to another one: never, once, or twice.
func (l *Link) Send(now, from, to int) []int {
	at, lost, twice := now+l.hop, false, false
	for i, f := range l.faults {
		if !l.meets(i, f.sees, now, from, to) {
			continue
		}
		// All count it, also where another one loses it.
		struck := f.N > 0 && l.counts[i]%f.N == 0
		switch f.Kind {
		case api.Cut:
			lost = true
		case api.Lose:
			lost = lost || struck
		case api.Double:
			twice = twice || struck
		case api.Slow:
			at += f.N
		}
	}
	switch {
	case lost:
		return nil
	case twice:
		return []int{at, at + 1}
	}
	return []int{at}
}

// meets tells whether a fault on a way sees a message, and counts it.
func (l *Link) meets(i int, sees func(now, from, to int) bool, now, from, to int) bool {
	if !onWay(l.faults[i].Kind) || !sees(now, from, to) {
		return false
	}
	l.counts[i]++
	return true
}

// On are the faults of a kind, of a node, that are there at a tick.
func (l *Link) On(kind, node, now int) (api.Fault, bool) {
	for _, f := range l.faults {
		if f.Kind == kind && f.A == node && f.there(now) {
			return api.Fault(f), true
		}
	}
	return api.Fault{}, false
}

// End is the tick from which on there is no fault.
func (l *Link) End() int {
	end := 0
	for _, f := range l.faults {
		end = max(end, f.To)
	}
	return end
}
