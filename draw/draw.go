// Package draw is layer 2: numbers that are drawn.
package draw

// Draws are numbers that are drawn: some that are said, and behind them others, by a seed.
type Draws struct{}

// New is draws of a seed, behind some that are said.
func New(seed uint64, said []uint64) *Draws { return nil }

// Next is the next one.
func (d *Draws) Next() uint64 { return 0 }

// Below is the next one, from 0 to below n.
func (d *Draws) Below(n int) int { return 0 }

// Two are two unlike numbers from 0 to below n.
func (d *Draws) Two(n int) (int, int) { return 0, 0 }

// Used is how many were drawn.
func (d *Draws) Used() int { return 0 }

// Hash is a text's number.
func Hash(s string) uint64 { return 0 }

// Mix is the number of two.
func Mix(a, b uint64) uint64 { return 0 }
