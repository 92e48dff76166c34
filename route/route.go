// Package route is layer 8: rules, by precedence.
package route

import (
	"pursebearer/api"
)

// Table is rules, ready to be asked.
type Table struct{}

// Check tells how a rule is wrong, where there are so many rates.
func Check(r api.Rule, rates int) api.Errno { return 0 }

// New is a table of rules.
func New(l []api.Rule, rates int) (*Table, api.Errno) { return nil, 0 }

// Find is the rule of a request.
func (t *Table) Find(path string, heads []api.Head) (int, bool) { return 0, false }

// Rule is a rule.
func (t *Table) Rule(n int) api.Rule { return api.Rule{} }

// On are the rules by which some request of a path may go.
func (t *Table) On(path string) []int { return nil }

// Len is how many rules there are.
func (t *Table) Len() int { return 0 }
