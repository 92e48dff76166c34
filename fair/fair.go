// Package fair is layer 22: who waits, and who is shed.
package fair

import (
	"pursebearer/api"
)

// Queue is what waits: the higher priority first, of one priority flow by flow.
type Queue struct{}

// New is one for so many.
func New(most int) *Queue { return nil }

// Put lets one wait; what is shed for it, if there is no room (perhaps itself).
func (q *Queue) Put(x api.Item) (shed api.Item, is bool) { return api.Item{}, false }

// Take is the next one.
func (q *Queue) Take() (api.Item, bool) { return api.Item{}, false }

// Drop takes one away.
func (q *Queue) Drop(id int) bool { return false }

// Len is how many wait.
func (q *Queue) Len() int { return 0 }

// All are those that wait, as they would be taken.
func (q *Queue) All() []api.Item { return nil }
