// Package outlier is layer 14: which endpoints are not well.
package outlier

import (
	"slices"

	"pursebearer/api"
	"pursebearer/fix"
	"pursebearer/sketch"
)

const (
	enough = 5   // attempts in a window, for an endpoint to be held against others
	slowAt = 900 // of a thousand: the quantile that may not be too slow
)

// Guard watches a service's endpoints, as one proxy sees them.
type Guard struct {
	w    api.Watch
	ends map[int]*end
	from int // when the window that runs began
}

// end is what is known of an endpoint.
type end struct {
	row, times int
	out        bool
	until      int
	now        window
}

// window is what an endpoint did in a window.
type window struct {
	all, good int
	took      *sketch.Sketch
}

// Check tells how a watch is wrong.
func Check(w api.Watch) api.Errno {
	bounds := [...][3]int{
		{w.Errors, 1, 100},
		{w.Window, 1, api.MaxWait},
		{w.Dev, 0, 100},
		{w.Slow, 0, api.MaxWait},
		{w.Share, 0, 100},
		{w.Base, 1, api.MaxWait},
		{w.Top, w.Base, api.MaxWait},
	}
	for _, b := range bounds {
		if b[0] < b[1] || b[0] > b[2] {
			return api.ErrRange
		}
	}
	return api.OK
}

// New is a guard of endpoints.
func New(w api.Watch, ids []int) *Guard {
	g := &Guard{w: w, ends: map[int]*end{}}
	g.Keep(ids)
	return g
}

// Keep is which endpoints there are from now on.
func (g *Guard) Keep(ids []int) {
	kept := map[int]*end{}
	for _, id := range ids {
		kept[id] = g.ends[id]
		if kept[id] == nil {
			kept[id] = &end{now: window{took: sketch.New()}}
		}
	}
	g.ends = kept
}

// Note notes how an attempt went, and tells whether the endpoint was ejected by that.
func (g *Guard) Note(now, id int, well bool, took int) bool {
	e := g.ends[id]
	if e == nil || e.out {
		return false
	}
	e.now.all++
	if well {
		e.now.good++
		e.now.took.Add(took)
		e.row = 0
		return false
	}
	e.row++
	return e.row >= g.w.Errors && g.eject(now, e)
}

// eject ejects an endpoint, if there is room.
func (g *Guard) eject(now int, e *end) bool {
	out := len(g.those(func(e *end) bool { return e.out }))
	if out+1 > fix.Down(g.w.Share*len(g.ends), 100) {
		return false
	}
	e.out = true
	e.until = now + g.span(e.times)
	e.times++
	e.now = window{took: sketch.New()}
	return true
}

// span is for how long one is ejected that was so some times before.
func (g *Guard) span(times int) int {
	ticks := g.w.Base
	for range times {
		if ticks >= g.w.Top {
			break
		}
		ticks *= 2
	}
	return min(ticks, g.w.Top)
}

// those are the IDs of the endpoints of which something is so, rising.
func (g *Guard) those(is func(*end) bool) []int {
	var ids []int
	for id, e := range g.ends {
		if is(e) {
			ids = append(ids, id)
		}
	}
	slices.Sort(ids)
	return ids
}

// Tick lets time pass: those that are ejected by their windows, and those that are taken back.
func (g *Guard) Tick(now int) (out, back []int) {
	back = g.those(func(e *end) bool { return e.out && e.until <= now })
	for _, id := range back {
		e := g.ends[id]
		e.out, e.until = false, 0
		e.row = g.w.Errors - 1
	}
	if now >= g.from+g.w.Window {
		out = g.close(now)
		g.from = now
	}
	return out, back
}

// close ends a window, and tells who is ejected by it.
func (g *Guard) close(now int) []int {
	in := g.those(func(e *end) bool { return !e.out })
	// Who did nothing wrong is told ahead of ejecting: that takes what was done in the window.
	clean := g.those(func(e *end) bool { return !e.out && e.now.good == e.now.all })
	var busy []int
	var shares [][2]int
	for _, id := range in {
		if x := g.ends[id].now; x.all >= enough {
			busy = append(busy, id)
			shares = append(shares, [2]int{x.good, x.all})
		}
	}
	var out []int
	for _, id := range busy {
		if e := g.ends[id]; g.odd(e.now, shares) && g.eject(now, e) {
			out = append(out, id)
		}
	}
	for _, id := range clean {
		e := g.ends[id]
		e.times = max(0, e.times-1)
	}
	for _, id := range in {
		g.ends[id].now = window{took: sketch.New()}
	}
	return out
}

// odd tells whether a window of one is worse than those of all may be.
func (g *Guard) odd(x window, shares [][2]int) bool {
	if g.w.Dev > 0 && fix.Far(x.good, x.all, shares, g.w.Dev) {
		return true
	}
	return g.w.Slow > 0 && x.good > 0 && x.took.At(slowAt) > g.w.Slow
}

// Well are those that are not ejected, rising.
func (g *Guard) Well() []int {
	return g.those(func(e *end) bool { return !e.out })
}

// Until is when an endpoint is taken back; 0: it is not ejected.
func (g *Guard) Until(id int) int {
	if e := g.ends[id]; e != nil {
		return e.until
	}
	return 0
}

// Times is how often an endpoint was ejected, less what was forgiven.
func (g *Guard) Times(id int) int {
	if e := g.ends[id]; e != nil {
		return e.times
	}
	return 0
}
