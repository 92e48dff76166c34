// Package graph is layer 33: who calls whom, and how often at most.
package graph

import (
	"slices"

	"pursebearer/api"
	"pursebearer/fix"
	"pursebearer/snap"
)

const around = 10 // how many others a call is within, at most, where no service is within itself

// web is a configuration, of which it is asked who calls whom.
type web struct {
	*snap.Snap
	known map[string]turns // by path
}

// turns is what may become of requests of a path.
type turns struct {
	rules    []api.Rule // in their row
	services []int      // that may get them, rising
	copies   []int      // the services that get copies, rule by rule
}

// look is the web of a configuration; of one that may not be none.
func look(c api.Conf) (web, bool) {
	s, e := snap.New(0, c)
	return web{s, map[string]turns{}}, e == api.OK
}

// at is what may become of requests of a path.
func (w web) at(path string) turns {
	if t, ok := w.known[path]; ok {
		return t
	}
	var t turns
	for _, n := range w.T.On(path) {
		r := w.T.Rule(n)
		t.rules = append(t.rules, r)
		for _, p := range r.Parts {
			if p.Weight > 0 {
				t.services = append(t.services, p.Service)
			}
		}
		if r.Mirror != 0 {
			t.copies = append(t.copies, r.Mirror)
		}
	}
	slices.Sort(t.services)
	t.services = slices.Compact(t.services)
	w.known[path] = t
	return t
}

// gets are all services to which requests of a path, or copies of them, may go.
func (w web) gets(path string) []int {
	return slices.Concat(w.at(path).services, w.at(path).copies)
}

func (w web) kids(service int) []string {
	s, _ := w.Service(service)
	return s.Kids
}

// calls are, of each call that a service makes, the services to which it may go; copies are calls of their own, behind the others.
func (w web) calls(service int) [][]int {
	var l, copies [][]int
	for _, path := range w.kids(service) {
		l = append(l, slices.Clone(w.at(path).services))
		for _, s := range w.at(path).copies {
			copies = append(copies, []int{s})
		}
	}
	return append(l, copies...)
}

// way are all paths that are on the way of some.
func (w web) way(paths ...string) []string {
	l := slices.Clone(paths)
	for i := 0; i < len(l); i++ {
		for _, s := range w.gets(l[i]) {
			for _, path := range w.kids(s) {
				if !slices.Contains(l, path) {
					l = append(l, path)
				}
			}
		}
	}
	return l
}

// within tells whether a service is within itself.
func (w web) within(service int) bool {
	return slices.ContainsFunc(w.way(w.kids(service)...), func(path string) bool {
		return slices.Contains(w.gets(path), service)
	})
}

// Depth is how many calls may be within one another, by their deadlines.
func Depth(c api.Conf) int { return fix.Down(c.Life, c.Hop) + 1 }

// Kids are the services to which a service's calls may go, call by call (copies among the last ones).
func Kids(c api.Conf, service int) [][]int {
	w, ok := look(c)
	if !ok {
		return nil
	}
	return w.calls(service)
}

// Walks is how many calls one call to a service makes of another one, at most, its own counted, within so many others.
func Walks(c api.Conf, from, to, depth int) int {
	w, ok := look(c)
	if !ok {
		return 0
	}
	return w.walks(to, depth)(from)
}

// walks tells of each service how many calls one call to it makes of another one.
func (w web) walks(to, depth int) func(from int) int {
	own := func(from int) int {
		if from == to {
			return 1
		}
		return 0
	}
	calls, now := map[int][][]int{}, map[int]int{}
	for _, s := range w.C.Services {
		calls[s.ID], now[s.ID] = w.calls(s.ID), own(s.ID)
	}
	for range depth {
		next, moved := map[int]int{}, false
		for _, s := range w.C.Services {
			n := own(s.ID)
			for _, l := range calls[s.ID] {
				n = fix.Sum(n, greatest(l, func(kid int) int { return now[kid] }))
			}
			next[s.ID] = n
			moved = moved || n != now[s.ID]
		}
		now = next
		if !moved {
			break
		}
	}
	return func(from int) int {
		if n, ok := now[from]; ok {
			return n
		}
		return own(from)
	}
}

// greatest is the greatest number of some; 0 of none.
func greatest(l []int, of func(int) int) int {
	most := 0
	for _, x := range l {
		most = max(most, of(x))
	}
	return most
}

// Factor is how many attempts reach a service, at most, for each fresh request; at most api.Most.
func Factor(c api.Conf, service int) int {
	w, ok := look(c)
	if !ok {
		return 0
	}
	var all []int
	for _, s := range c.Services {
		all = append(all, s.ID)
	}
	n := greatest(all, w.walks(service, Depth(c)))
	if slices.ContainsFunc(c.Rules, func(r api.Rule) bool { return r.Mirror != 0 && r.Mirror == service }) {
		n = fix.Sum(n, 1)
	}
	return fix.Part(n, 1+c.Purse, 1)
}

// times tells how long paths take, at most, where no service is within itself.
func (w web) times() func(path string) int {
	kept := map[string]int{}
	var time func(path string) int
	service := func(id int) int {
		s, _ := w.Service(id)
		sum := 2*w.C.Hop + s.Work + 2
		for _, path := range s.Kids {
			sum = fix.Sum(sum, time(path))
		}
		return sum
	}
	time = func(path string) int {
		if t, ok := kept[path]; ok {
			return t
		}
		sum := greatest(w.at(path).services, service)
		for _, id := range w.at(path).copies {
			sum = fix.Sum(sum, service(id))
		}
		late := 0
		for _, r := range w.at(path).rules {
			if r.Inject.Delay > 0 {
				late = max(late, r.Inject.Ticks)
			}
		}
		kept[path] = fix.Sum(sum, late)
		return kept[path]
	}
	return time
}

// Alone is how many ticks a request of a path takes at most, if it is alone, and nothing fails; false: it may not come to an end.
func Alone(c api.Conf, path string) (int, bool) {
	w, ok := look(c)
	if !ok {
		return 0, false
	}
	way := w.way(path)
	for _, p := range way {
		if slices.ContainsFunc(w.gets(p), w.within) {
			return 0, false
		}
	}
	time := w.times()(path)
	hinders := func(p string) bool { return w.hinders(p, time) }
	if time > c.Life || slices.ContainsFunc(way, hinders) || slices.ContainsFunc(c.Services, func(s api.Service) bool { return !w.holds(s, path) }) {
		return 0, false
	}
	return time, true
}

// hinders tells whether a path keeps a request that takes so many ticks from its end.
func (w web) hinders(path string, time int) bool {
	rules := w.at(path).rules
	open := slices.ContainsFunc(rules, func(r api.Rule) bool { return len(r.M.Heads) == 0 })
	odd := slices.ContainsFunc(rules, func(r api.Rule) bool {
		return r.Inject.Abort > 0 || r.Rate > 0 || r.P.Timeout < time
	})
	empty := slices.ContainsFunc(w.at(path).services, func(s int) bool { return len(w.Ends(s)) == 0 })
	return !open || odd || empty
}

// holds tells whether a service has room for all calls that a request of a path makes of it.
func (w web) holds(s api.Service, path string) bool {
	walks := w.walks(s.ID, around)
	n := greatest(w.at(path).services, walks)
	for _, id := range w.at(path).copies {
		n = fix.Sum(n, walks(id))
	}
	return n <= s.Queue && n <= w.C.Low+w.C.Wait
}
