// Package zones is layer 11: near endpoints first.
package zones

import (
	"iter"
	"slices"

	"pursebearer/api"
	"pursebearer/fix"
)

// those are the IDs of the endpoints of which something is so.
func those(l []api.End, is func(api.End) bool) iter.Seq[int] {
	return func(yield func(int) bool) {
		for _, e := range l {
			if is(e) && !yield(e.ID) {
				return
			}
		}
	}
}

func count(l []api.End, is func(api.End) bool) int {
	n := 0
	for range those(l, is) {
		n++
	}
	return n
}

// Home is the percent of calls that stay in a zone.
func Home(l []api.End, well []int, zone int) int {
	here := func(e api.End) bool { return e.Zone == zone }
	isWell := func(e api.End) bool { return slices.Contains(well, e.ID) }
	wellHere := count(l, func(e api.End) bool { return here(e) && isWell(e) })
	switch {
	case wellHere == 0:
		return 0
	case wellHere == count(l, isWell):
		return 100
	}
	return fix.Down(100*wellHere, count(l, here))
}

// Panic tells whether too few are well.
func Panic(l []api.End, well []int, percent int) bool {
	n := count(l, func(e api.End) bool { return slices.Contains(well, e.ID) })
	return 100*n < percent*len(l)
}

// Among are the endpoints among which one is chosen, where draw is from 0 to 99.
func Among(l []api.End, well []int, zone, percent, draw int) []int {
	is := func(api.End) bool { return true }
	if !Panic(l, well, percent) {
		home := draw < Home(l, well, zone)
		is = func(e api.End) bool { return slices.Contains(well, e.ID) && (e.Zone == zone) == home }
	}
	var ids []int
	for id := range those(l, is) {
		ids = append(ids, id)
	}
	slices.Sort(ids)
	return ids
}
