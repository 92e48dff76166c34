// Package dedup is layer 25: keys that took effect.
package dedup

// Table is keys that took effect.
type Table struct {
	horizon int
	at      map[string]int // when a key was put
	row     []entry        // as they were put, so that what is forgotten first stands first
}

type entry struct {
	at  int
	key string
}

// New is one that remembers for so many ticks.
func New(horizon int) *Table { return &Table{horizon: horizon, at: map[string]int{}} }

// Has tells whether a key is remembered.
func (t *Table) Has(now int, key string) bool {
	defer t.forget(now)
	return t.remembers(now, key)
}

func (t *Table) remembers(now int, key string) bool {
	at, ok := t.at[key]
	return ok && now < at+t.horizon
}

// Put notes that a key takes effect; false: it is remembered, and does not.
func (t *Table) Put(now int, key string) bool {
	defer t.forget(now)
	if t.remembers(now, key) {
		return false
	}
	t.at[key] = now
	t.row = append(t.row, entry{now, key})
	return true
}

// Len is how many are remembered.
func (t *Table) Len(now int) int {
	t.forget(now)
	return len(t.at)
}

// forget lets go what is not remembered any more.
func (t *Table) forget(now int) {
	n := 0
	for n < len(t.row) && now >= t.row[n].at+t.horizon {
		// The key may have been put again since.
		if e := t.row[n]; t.at[e.key] == e.at {
			delete(t.at, e.key)
		}
		n++
	}
	clear(t.row[:n])
	t.row = t.row[n:]
}
