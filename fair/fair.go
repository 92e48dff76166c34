// Package fair is layer 22: who waits, and who is shed.
package fair

import (
	"maps"
	"slices"

	"pursebearer/api"
	"pursebearer/fix"
)

// Queue is what waits: the higher priority first, of one priority flow by flow.
type Queue struct {
	most, count int
	rows        [api.MaxPrio + 1]row // by priority
}

// row is what waits of one priority.
type row struct {
	flows map[int][]api.Item // by flow, the oldest one first; none is empty
	taken bool               // whether one was taken ever
	last  int                // the flow of the one that was taken last
}

// New is one for so many.
func New(most int) *Queue {
	q := &Queue{most: most}
	for i := range q.rows {
		q.rows[i].flows = map[int][]api.Item{}
	}
	return q
}

// Put lets one wait; what is shed for it, if there is no room (perhaps itself).
func (q *Queue) Put(x api.Item) (shed api.Item, is bool) {
	r := &q.rows[fix.Clamp(x.Prio, 0, api.MaxPrio)]
	r.flows[x.Flow] = append(r.flows[x.Flow], x)
	q.count++
	if q.count <= q.most {
		return api.Item{}, false
	}
	return q.shed(), true
}

// shed takes away the newest item of the longest flow of the least priority.
func (q *Queue) shed() api.Item {
	var x api.Item
sought:
	for prio := range q.rows {
		r := &q.rows[prio]
		longest := -1
		for _, flow := range r.order() {
			if longest < 0 || len(r.flows[flow]) >= len(r.flows[longest]) {
				longest = flow
			}
		}
		if longest >= 0 {
			newest := len(r.flows[longest]) - 1
			x = r.flows[longest][newest]
			q.remove(r, longest, newest)
			break sought
		}
	}
	return x
}

// remove takes away one that waits.
func (q *Queue) remove(r *row, flow, place int) {
	r.flows[flow] = slices.Delete(r.flows[flow], place, place+1)
	if len(r.flows[flow]) == 0 {
		delete(r.flows, flow)
	}
	q.count--
}

// order are the flows that wait, rising.
func (r *row) order() []int { return slices.Sorted(maps.Keys(r.flows)) }

// next is the flow whose turn it is; one at least waits.
func (r *row) next() int {
	flows := r.order()
	i := slices.IndexFunc(flows, func(f int) bool { return r.taken && f > r.last })
	return flows[max(i, 0)]
}

// Take is the next one.
func (q *Queue) Take() (api.Item, bool) {
	for prio := api.MaxPrio; prio >= 0; prio-- {
		r := &q.rows[prio]
		if len(r.flows) == 0 {
			continue
		}
		flow := r.next()
		x := r.flows[flow][0]
		q.remove(r, flow, 0)
		r.taken, r.last = true, flow
		return x, true
	}
	return api.Item{}, false
}

// Drop takes one away.
func (q *Queue) Drop(id int) bool {
	for prio := range q.rows {
		r := &q.rows[prio]
		for _, flow := range r.order() {
			place := slices.IndexFunc(r.flows[flow], func(x api.Item) bool { return x.ID == id })
			if place >= 0 {
				q.remove(r, flow, place)
				return true
			}
		}
	}
	return false
}

// Len is how many wait.
func (q *Queue) Len() int { return q.count }

// All are those that wait, as they would be taken.
func (q *Queue) All() []api.Item {
	again := New(q.most)
	again.count = q.count
	for prio, r := range q.rows {
		for flow, l := range r.flows {
			again.rows[prio].flows[flow] = slices.Clone(l)
		}
		again.rows[prio].taken, again.rows[prio].last = r.taken, r.last
	}
	var out []api.Item
	for x, ok := again.Take(); ok; x, ok = again.Take() {
		out = append(out, x)
	}
	return out
}
