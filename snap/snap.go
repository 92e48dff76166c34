// Package snap is layer 16: versions of a configuration.
package snap

import (
	"slices"

	"pursebearer/api"
	"pursebearer/copies"
	"pursebearer/match"
	"pursebearer/outlier"
	"pursebearer/ring"
	"pursebearer/route"
)

const points = 16 // of each endpoint on its service's ring

// Snap is a configuration, ready to be used: a version.
type Snap struct {
	Version int
	C       api.Conf
	T       *route.Table

	services map[int]api.Service
	rings    map[int]*ring.Ring
	empty    *ring.Ring // of all services that are not there
}

// owner is the ID of a service, as the one that has endpoints.
type owner int

// has tells whether an endpoint is the service's.
func (o owner) has(e api.End) bool { return e.Service == int(o) }

// Check tells how a configuration is wrong.
func Check(c api.Conf) api.Errno {
	if len(c.Services) > api.MaxServices || len(c.Ends) > api.MaxEnds || len(c.Rates) > api.MaxRates {
		return api.ErrLong
	}
	for i, s := range c.Services {
		if there(c.Services[:i], s.ID) || !mayServe(s) {
			return api.ErrService
		}
	}
	for i, e := range c.Ends {
		twice := slices.ContainsFunc(c.Ends[:i], func(x api.End) bool { return x.ID == e.ID })
		if twice || !within(e.ID, 1, api.MaxEnds) || !there(c.Services, e.Service) || !within(e.Zone, 1, api.MaxZones) {
			return api.ErrEnd
		}
	}
	if e := checkRules(c); e != api.OK {
		return e
	}
	for _, r := range c.Rates {
		if !within(r.Limit, 1, 1000) || !within(r.Window, 1, 1000) || !within(r.Slice, 1, r.Limit) {
			return api.ErrRate
		}
	}
	if e := outlier.Check(c.Watch); e != api.OK {
		return e
	}
	if !mayRange(c) {
		return api.ErrRange
	}
	return api.OK
}

func within(n, low, high int) bool { return n >= low && n <= high }

func there(l []api.Service, id int) bool {
	return slices.ContainsFunc(l, func(s api.Service) bool { return s.ID == id })
}

func mayServe(s api.Service) bool {
	odd := func(path string) bool { return !match.Path(path) }
	return within(s.ID, 1, api.MaxServices) && len(s.Kids) <= api.MaxKids && !slices.ContainsFunc(s.Kids, odd) &&
		within(s.Work, 1, 100) && within(s.Slots, 1, 20) && within(s.Queue, 1, api.MaxQueue) &&
		within(s.Balance, api.ByTwo, api.ByBound) && within(s.Warm, 0, 100)
}

func checkRules(c api.Conf) api.Errno {
	if _, e := route.New(c.Rules, len(c.Rates)); e != api.OK {
		return e
	}
	gone := func(p api.Part) bool { return !there(c.Services, p.Service) }
	for _, r := range c.Rules {
		if slices.ContainsFunc(r.Parts, gone) || r.Mirror != 0 && !there(c.Services, r.Mirror) {
			return api.ErrService
		}
	}
	return api.OK
}

func mayRange(c api.Conf) bool {
	return within(c.Panic, 0, 100) && within(c.Low, 1, c.High) && c.High <= 100 &&
		within(c.Wait, 0, 50) && within(c.Hop, 1, 100) && within(c.Life, 1, api.MaxWait) &&
		within(c.Purse, 0, api.MaxPurse) && within(c.Horizon, c.Life, 40000) && within(c.Sample, 0, 100)
}

// New is a version of a configuration.
func New(version int, c api.Conf) (*Snap, api.Errno) {
	if e := Check(c); e != api.OK {
		return nil, e
	}
	c = copies.Conf(c)
	t, e := route.New(c.Rules, len(c.Rates))
	if e != api.OK {
		return nil, e
	}
	s := &Snap{Version: version, C: c, T: t, services: map[int]api.Service{}, rings: map[int]*ring.Ring{}, empty: ring.New(nil, points)}
	for _, x := range c.Services {
		s.services[x.ID] = x
		var ids []int
		for _, e := range s.Ends(x.ID) {
			ids = append(ids, e.ID)
		}
		s.rings[x.ID] = ring.New(ids, points)
	}
	return s, api.OK
}

// Service is a service.
func (s *Snap) Service(id int) (api.Service, bool) {
	x, ok := s.services[id]
	return copies.Service(x), ok
}

// Ends are a service's endpoints, by their IDs.
func (s *Snap) Ends(service int) []api.End {
	return those(s.C.Ends, owner(service).has)
}

// those are the endpoints of which something is so, by their IDs.
func those(l []api.End, is func(api.End) bool) []api.End {
	var out []api.End
	for _, e := range l {
		if is(e) {
			out = append(out, e)
		}
	}
	slices.SortFunc(out, func(a, b api.End) int { return a.ID - b.ID })
	return out
}

// Ring is a service's ring.
func (s *Snap) Ring(service int) *ring.Ring {
	if r, ok := s.rings[service]; ok {
		return r
	}
	return s.empty
}

// Diff are the endpoints that came, and those that went.
func Diff(a, b *Snap) (came, went []int) {
	return lacking(b.C.Ends, a.C.Ends), lacking(a.C.Ends, b.C.Ends)
}

// lacking are the IDs of those endpoints that do not stand, just so, among others.
func lacking(l, others []api.End) []int {
	var ids []int
	for _, e := range those(l, func(e api.End) bool { return !slices.Contains(others, e) }) {
		ids = append(ids, e.ID)
	}
	return ids
}
