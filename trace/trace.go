// Package trace is layer 28: what truly happened.
package trace

import (
	"pursebearer/api"
)

// Log is what truly happened: attempts, each within another one; at first its zero value.
type Log struct{}

// Note notes an attempt.
func (l *Log) Note(s api.Span) api.Errno { return 0 }

// Spans are those of a request, as they were noted.
func (l *Log) Spans(req int) []api.Span { return nil }

// Before tells whether one attempt is around another one.
func Before(a, b string) bool { return false }

// Req is the request of a name.
func Req(name string) int { return 0 }

// Forest tells whether each of some spans but the outermost ones has the one that is around it, and no two have a name.
func Forest(l []api.Span) bool { return false }
