// Package alarm is layer 3: what is due when.
package alarm

import (
	"slices"
	"sort"
)

// Alarms are what is due at which tick.
type Alarms struct {
	row   []entry       // sorted by tick, and by number of setting
	of    map[int]entry // by id
	count int
}

type entry struct{ at, set, id int }

// New is none.
func New() *Alarms { return &Alarms{of: map[int]entry{}} }

// Set sets an alarm, or sets it anew.
func (a *Alarms) Set(at, id int) {
	a.Stop(id)
	e := entry{at: at, set: a.count, id: id}
	a.count++
	a.row = slices.Insert(a.row, a.ahead(at, e.set), e)
	a.of[id] = e
}

// ahead is how many stand ahead of the place of a tick and a number of setting.
func (a *Alarms) ahead(at, set int) int {
	return sort.Search(len(a.row), func(i int) bool {
		x := a.row[i]
		return x.at > at || x.at == at && x.set >= set
	})
}

// Stop takes one off.
func (a *Alarms) Stop(id int) bool {
	e, ok := a.of[id]
	if !ok {
		return false
	}
	i := a.ahead(e.at, e.set)
	a.row = slices.Delete(a.row, i, i+1)
	delete(a.of, id)
	return true
}

// Due are those that are due by a tick, by their ticks, and as they were set; they are taken off.
func (a *Alarms) Due(now int) []int {
	n := sort.Search(len(a.row), func(i int) bool { return a.row[i].at > now })
	var ids []int
	for _, e := range a.row[:n] {
		ids = append(ids, e.id)
		delete(a.of, e.id)
	}
	a.row = slices.Delete(a.row, 0, n)
	return ids
}

// Next is when the next one is due.
func (a *Alarms) Next() (int, bool) {
	if len(a.row) == 0 {
		return 0, false
	}
	return a.row[0].at, true
}

// Len is how many there are.
func (a *Alarms) Len() int { return len(a.row) }
