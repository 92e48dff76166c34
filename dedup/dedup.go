// Package dedup is layer 25: keys that took effect.
package dedup

// Table is keys that took effect.
type Table struct{}

// New is one that remembers for so many ticks.
func New(horizon int) *Table { return nil }

// Has tells whether a key is remembered.
func (t *Table) Has(now int, key string) bool { return false }

// Put notes that a key takes effect; false: it is remembered, and does not.
func (t *Table) Put(now int, key string) bool { return false }

// Len is how many are remembered.
func (t *Table) Len(now int) int { return 0 }
