// Package bound is layer 10: a ring on which nobody has too much.
package bound

import (
	"slices"

	"pursebearer/api"
	"pursebearer/fix"
	"pursebearer/ring"
)

// Cap is how many attempts one of n may have, where there are so many in all, and one more: percent of the mean, rounded up.
func Cap(all, n, percent int) int { return fix.Up((all+1)*percent, 100*n) }

// Pick is the first endpoint of a ring, behind a key, that is one of some, and has less than it may.
func Pick(r *ring.Ring, key uint64, some []int, l []api.Load, percent int) (int, bool) {
	row := slices.DeleteFunc(r.Row(key), func(id int) bool { return !slices.Contains(some, id) })
	if len(row) == 0 {
		return 0, false
	}
	loads := map[int]int{}
	for _, x := range l {
		if _, ok := loads[x.ID]; !ok {
			loads[x.ID] = x.N
		}
	}
	all := 0
	for _, id := range row {
		all += loads[id]
	}
	most := Cap(all, len(row), percent)
	i := slices.IndexFunc(row, func(id int) bool { return loads[id] < most })
	if i < 0 {
		return 0, false
	}
	return row[i], true
}
