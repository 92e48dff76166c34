// Package trace is layer 28: what truly happened.
package trace

import (
	"pursebearer/api"
	"pursebearer/ctx"
	"pursebearer/names"
)

// Log is what truly happened: attempts, each within another one; at first its zero value.
type Log struct {
	noted map[string]bool
	spans map[int][]api.Span // by request
}

// Note notes an attempt.
func (l *Log) Note(s api.Span) api.Errno {
	kind, req := names.Read(s.Name)
	if kind != names.Attempt {
		return api.ErrForm
	}
	if l.noted[s.Name] {
		return api.ErrTwice
	}
	if l.noted == nil {
		l.noted = map[string]bool{}
		l.spans = map[int][]api.Span{}
	}
	l.noted[s.Name] = true
	l.spans[req] = append(l.spans[req], s)
	return api.OK
}

// Spans are those of a request, as they were noted.
func (l *Log) Spans(req int) []api.Span {
	return append([]api.Span(nil), l.spans[req]...)
}

// Before tells whether one attempt is around another one.
func Before(a, b string) bool {
	up := func() string {
		b = ctx.Up(b)
		return b
	}
	for around := up(); around != ""; around = up() {
		if around == a {
			return true
		}
	}
	return false
}

// Req is the request of a name.
func Req(name string) int {
	_, req := names.Read(name)
	return req
}

// Forest tells whether each of some spans but the outermost ones has the one that is around it, and no two have a name.
func Forest(l []api.Span) bool {
	among := map[string]bool{}
	for _, s := range l {
		if among[s.Name] {
			return false
		}
		among[s.Name] = true
	}
	for _, s := range l {
		if up := ctx.Up(s.Name); up != "" && !among[up] {
			return false
		}
	}
	return true
}
