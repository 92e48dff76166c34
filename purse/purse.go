// Package purse is layer 18: allowances, that are spent and never made.
package purse

import (
	"pursebearer/api"
)

// Split is an allowance, dealt to so many.
func Split(n, kids int) []int { return nil }

// Half is what an attempt takes along, and what is kept.
func Half(n int) (along, kept int) { return 0, 0 }

// Ledger is who has which allowance.
type Ledger struct{}

// New is one of which nothing is noted.
func New() *Ledger { return nil }

// Mint gives a fresh request its allowance.
func (l *Ledger) Mint(req, n int) api.Errno { return 0 }

// Move moves some of it from one holder to another one.
func (l *Ledger) Move(from, to string, n int) api.Errno { return 0 }

// Spend takes some of it away.
func (l *Ledger) Spend(at string, n int) api.Errno { return 0 }

// Left is what a holder has.
func (l *Ledger) Left(at string) int { return 0 }

// Sum is all that is held, and all that was spent, of a request.
func (l *Ledger) Sum(req int) (held, spent int) { return 0, 0 }
