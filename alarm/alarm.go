// Package alarm is layer 3: what is due when.
package alarm

// Alarms are what is due at which tick.
type Alarms struct{}

// New is none.
func New() *Alarms { return nil }

// Set sets an alarm, or sets it anew.
func (a *Alarms) Set(at, id int) {}

// Stop takes one off.
func (a *Alarms) Stop(id int) bool { return false }

// Due are those that are due by a tick, by their ticks, and as they were set; they are taken off.
func (a *Alarms) Due(now int) []int { return nil }

// Next is when the next one is due.
func (a *Alarms) Next() (int, bool) { return 0, false }

// Len is how many there are.
func (a *Alarms) Len() int { return 0 }
