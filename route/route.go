// Package route is layer 8: rules, by precedence.
package route

import (
	"slices"

	"pursebearer/api"
	"pursebearer/copies"
	"pursebearer/match"
	"pursebearer/rewrite"
	"pursebearer/split"
)

// Table is rules, ready to be asked.
type Table struct {
	rules []api.Rule
	row   []int // the rules' numbers, by precedence
}

// Check tells how a rule is wrong, where there are so many rates.
func Check(r api.Rule, rates int) api.Errno {
	return first(
		func() api.Errno { return match.Check(r.M) },
		func() api.Errno { return split.Check(r.Parts) },
		func() api.Errno { return unless(within(r.Mirror, 0, api.MaxServices), api.ErrService) },
		func() api.Errno { return unless(inject(r.Inject), api.ErrPolicy) },
		func() api.Errno { return rewrite.Check(r) },
		func() api.Errno { return unless(policy(r.P), api.ErrPolicy) },
		func() api.Errno { return unless(within(r.Rate, 0, rates), api.ErrRate) },
	)
}

// first is the first error of what has to be so.
func first(l ...func() api.Errno) api.Errno {
	for _, ask := range l {
		if e := ask(); e != api.OK {
			return e
		}
	}
	return api.OK
}

func unless(ok bool, e api.Errno) api.Errno {
	if ok {
		return api.OK
	}
	return e
}

func within(n, low, high int) bool { return n >= low && n <= high }

func inject(x api.Inject) bool {
	return within(x.Abort, 0, api.MaxWait) && within(x.Delay, 0, api.MaxWait) && within(x.Ticks, 0, api.MaxWait)
}

func policy(p api.Policy) bool {
	return within(p.Timeout, 1, api.MaxWait) && within(p.Tries, 1, api.MaxTries) &&
		within(p.Back, 0, api.MaxWait) && within(p.Hedge, 0, api.MaxWait) &&
		within(p.Budget.Per, 0, 100) && within(p.Budget.Of, 1, 100) && within(p.Budget.Burst, 0, 100)
}

// New is a table of rules.
func New(l []api.Rule, rates int) (*Table, api.Errno) {
	if len(l) > api.MaxRules {
		return nil, api.ErrLong
	}
	t := &Table{}
	for i, r := range l {
		if e := Check(r, rates); e != api.OK {
			return nil, e
		}
		t.rules = append(t.rules, copies.Rule(r))
		t.row = append(t.row, i)
	}
	// Stable, so that of rules that are alike the one with the least number stays ahead.
	slices.SortStableFunc(t.row, func(a, b int) int { return match.Cmp(l[a].M, l[b].M) })
	return t, api.OK
}

// Find is the rule of a request.
func (t *Table) Find(path string, heads []api.Head) (int, bool) {
	for _, n := range t.row {
		if match.Fits(t.rules[n].M, path, heads) {
			return n, true
		}
	}
	return 0, false
}

// Rule is a rule.
func (t *Table) Rule(n int) api.Rule {
	if n < 0 || n >= len(t.rules) {
		return api.Rule{}
	}
	return copies.Rule(t.rules[n])
}

// On are the rules by which some request of a path may go.
func (t *Table) On(path string) []int {
	numbers := make([]int, len(t.row))
	copy(numbers, t.row)
	numbers = slices.DeleteFunc(numbers, func(n int) bool { return !match.On(t.rules[n].M, path) })
	slices.Sort(numbers)
	return numbers
}

// Len is how many rules there are.
func (t *Table) Len() int { return len(t.rules) }
