// Package sample is layer 29: which spans are kept.
package sample

import (
	"slices"
	"strconv"

	"pursebearer/api"
	"pursebearer/draw"
	"pursebearer/trace"
)

// Head tells whether a request's spans are kept from the beginning on.
func Head(req, percent int) bool {
	return int(draw.Hash(strconv.Itoa(req))%100) < percent
}

// Tail keeps spans till their request is over, and tells then which ones are kept.
type Tail struct {
	most, percent, slow int
	held                map[int][]api.Span // by request
	row                 []int              // the requests, as they came
}

// New is one that keeps those of so many requests, and lets go those that were well and took less than so many ticks, unless they are kept by their heads.
func New(most, percent, slow int) *Tail {
	return &Tail{most: most, percent: percent, slow: slow, held: map[int][]api.Span{}}
}

// Add takes a span; those that have to go for it.
func (t *Tail) Add(s api.Span) []api.Span {
	var gone []api.Span
	req := trace.Req(s.Name)
	if _, ok := t.held[req]; !ok {
		if len(t.row) > 0 && len(t.row) >= t.most {
			gone = t.let(t.row[0])
		}
		t.row = append(t.row, req)
	}
	t.held[req] = append(t.held[req], s)
	return gone
}

// let lets go a request, and tells its spans.
func (t *Tail) let(req int) []api.Span {
	l := t.held[req]
	delete(t.held, req)
	t.row = slices.DeleteFunc(t.row, func(n int) bool { return n == req })
	return l
}

// Over is that a request is over: its spans, if they are kept.
func (t *Tail) Over(req int, well bool, took int) []api.Span {
	l := t.let(req)
	if well && took < t.slow && !Head(req, t.percent) {
		return nil
	}
	return l
}

// Len is how many requests it has.
func (t *Tail) Len() int { return len(t.row) }
