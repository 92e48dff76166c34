// Package audit is layer 36: what a run shows.
package audit

import (
	"cmp"
	"maps"
	"math"
	"slices"

	"pursebearer/api"
	"pursebearer/collect"
	"pursebearer/ctx"
	"pursebearer/trace"
)

// count is of how many something is so.
func count[T any](l []T, is func(T) bool) int {
	n := 0
	for _, x := range l {
		if is(x) {
			n++
		}
	}
	return n
}

// group keeps what is told of events by their keys.
func group[K cmp.Ordered, V any](l []api.Event, of func(api.Event) (K, V, bool)) map[K][]V {
	m := map[K][]V{}
	for _, e := range l {
		if k, v, ok := of(e); ok {
			m[k] = append(m[k], v)
		}
	}
	return m
}

// keys are the keys of what was kept of which something is so, rising.
func keys[K cmp.Ordered, V any](m map[K][]V, is func([]V) bool) []K {
	l := slices.Sorted(maps.Keys(m))
	return slices.DeleteFunc(l, func(k K) bool { return !is(m[k]) })
}

// Reached is how many attempts reached a service, and how many fresh requests there were.
func Reached(l []api.Event, service int) (attempts, fresh int) {
	attempts = count(l, func(e api.Event) bool { return e.Kind == api.EvReach && e.Service == service })
	fresh = count(l, func(e api.Event) bool { return e.Kind == api.EvAsk })
	return attempts, fresh
}

// Twice are keys that took effect twice within so many ticks.
func Twice(l []api.Event, horizon int) []string {
	ticks := group(l, func(e api.Event) (string, int, bool) {
		return e.Key, e.At, e.Kind == api.EvEffect && !e.C.Idem
	})
	return keys(ticks, func(at []int) bool {
		slices.Sort(at)
		for i := 1; i < len(at); i++ {
			if at[i]-at[i-1] < horizon {
				return true
			}
		}
		return false
	})
}

// Late are attempts whose work began behind their deadline.
func Late(l []api.Event) []string {
	var names []string
	seen := map[string]bool{}
	for _, e := range l {
		name := ctx.Span(e.C)
		if e.Kind == api.EvStart && e.At >= e.C.Deadline && !seen[name] {
			seen[name] = true
			names = append(names, name)
		}
	}
	return names
}

// Torn are requests whose calls were routed by two versions.
func Torn(l []api.Event) []int {
	versions := group(l, func(e api.Event) (int, int, bool) {
		return e.C.Req, e.C.Version, e.Kind == api.EvRoute
	})
	return keys(versions, func(l []int) bool { return slices.Min(l) != slices.Max(l) })
}

// Admitted is how many calls a rate admitted in a window.
func Admitted(l []api.Event, rate, from, to int) int {
	return count(l, func(e api.Event) bool {
		return e.Kind == api.EvAdmit && e.N == rate && e.At >= from && e.At < to
	})
}

// True tells whether a tree is part of what truly happened, and just what was lost is marked.
func True(l []collect.Node, t *trace.Log, lost []string) bool {
	var spans []api.Span
	for _, n := range l {
		spans = append(spans, api.Span{Name: n.Name})
	}
	if !trace.Forest(spans) {
		return false
	}
	return count(l, func(n collect.Node) bool { return isTrue(n, t, lost) }) == len(l)
}

// isTrue tells whether a node truly was, and is marked just if it was lost.
func isTrue(n collect.Node, t *trace.Log, lost []string) bool {
	was := t.Spans(trace.Req(n.Name))
	i := slices.IndexFunc(was, func(s api.Span) bool { return s.Name == n.Name })
	if i < 0 || n.Missing != slices.Contains(lost, n.Name) {
		return false
	}
	return n.Missing || n.S.Service == was[i].Service && n.S.From == was[i].From
}

// Calm is how many ticks behind the last fault, and the last deadline, all is well again.
func Calm(c api.Conf) int {
	work := 0
	for i, s := range c.Services {
		if i == 0 || s.Work > work {
			work = s.Work
		}
	}
	return total([2]int{20, work}, [2]int{1, c.Watch.Window}, [2]int{1, c.Watch.Top}, [2]int{4, c.Hop}, [2]int{1, 1000})
}

// total is all numbers together, each (the second one) so many times as is said ahead of it, or the int that is nearest to that: a configuration may be any.
func total(l ...[2]int) int {
	const half = 32 // bits: each number is reckoned in two parts, so that their sums are ints
	high, low := 0, 0
	for _, x := range l {
		high += x[0] * (x[1] >> half)
		low += x[0] * (x[1] & (1<<half - 1))
	}
	high += low >> half
	switch {
	case high > math.MaxInt32:
		return math.MaxInt
	case high < math.MinInt32:
		return math.MinInt
	}
	return high<<half | low&(1<<half-1)
}

// Good is how many requests that came from a tick on were answered well, and how many there were.
func Good(l []api.Event, from int) (well, all int) {
	asked := group(l, func(e api.Event) (int, bool, bool) {
		return e.C.Req, true, e.Kind == api.EvAsk && e.At >= from
	})
	answered := group(l, func(e api.Event) (int, bool, bool) {
		return e.C.Req, true, e.Kind == api.EvAnswer && e.N == 0
	})
	for req := range asked {
		if len(answered[req]) > 0 {
			well++
		}
	}
	return well, len(asked)
}
