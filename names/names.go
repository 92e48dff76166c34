// Package names reads the names of calls and attempts, of which all layers speak.
package names

import (
	"strconv"

	"pursebearer/api"
)

// What a text names.
const (
	None = iota
	Call
	Attempt
)

// Decimal is the number that a text prints, from 0 to api.MaxTime.
func Decimal(s string) (int, bool) {
	n, err := strconv.Atoi(s)
	// Printed again it has to be the same: no + and no noughts ahead.
	if err != nil || n < 0 || n > api.MaxTime || strconv.Itoa(n) != s {
		return 0, false
	}
	return n, true
}

// Read tells what a text names, and its request.
func Read(s string) (kind, req int) {
	at := 0
	number := func(least int) (int, bool) {
		from := at
		for at < len(s) && s[at] >= '0' && s[at] <= '9' {
			at++
		}
		n, ok := Decimal(s[from:at])
		return n, ok && n >= least
	}
	sign := func(c byte) bool {
		if s[at] != c {
			return false
		}
		at++
		return true
	}
	req, ok := number(1)
	kind = Call
	for ok && at < len(s) {
		switch {
		case kind == Call && sign('~'):
		case kind == Call && sign(':'):
			_, ok = number(1)
			kind = Attempt
		case kind == Attempt && sign('/'):
			_, ok = number(0)
			kind = Call
		default:
			ok = false
		}
	}
	if !ok {
		return None, 0
	}
	return kind, req
}
