// Package lease is layer 24: rates, leased in slices.
package lease

import (
	"math"

	"pursebearer/api"
)

// Check tells how a rate is wrong.
func Check(r api.Rate) api.Errno {
	if r.Limit < 1 || r.Limit > 1000 || r.Window < 1 || r.Window > 1000 || r.Slice < 1 || r.Slice > r.Limit {
		return api.ErrRate
	}
	return api.OK
}

// window is what a limiter leased, or what a client has, in the window of the tick that it was told last.
type window struct {
	rate  api.Rate
	place int
	count int
}

// turn goes on to the window of a tick: nothing is brought along.
func (w *window) turn(now int) {
	if place := now / max(w.rate.Window, 1); place != w.place {
		w.place, w.count = place, 0
	}
}

// Limiter leases slices of a rate.
type Limiter struct{ window }

// NewLimiter is one that has leased nothing.
func NewLimiter(r api.Rate) *Limiter { return &Limiter{window{rate: r}} }

// Ask is how many it leases at a tick.
func (l *Limiter) Ask(now int) int {
	l.turn(now)
	n := min(l.rate.Slice, l.rate.Limit-l.count)
	l.count += n
	return n
}

// Forget lets it forget, from a tick on.
func (l *Limiter) Forget(now int) {
	l.turn(now)
	// It knows no more what it leased, and so it has to be all.
	l.count = l.rate.Limit
}

// Client is one who has leases.
type Client struct{ window }

// NewClient is one who has none.
func NewClient(r api.Rate) *Client { return &Client{window{rate: r}} }

// Use admits a call, if there is something left of this window.
func (c *Client) Use(now int) bool {
	c.turn(now)
	if c.count == 0 {
		return false
	}
	c.count--
	return true
}

// Give gives it a lease.
func (c *Client) Give(now, n int) {
	c.turn(now)
	// A proxy is handed leases of any size, so that all of them together may be more than an int holds.
	c.count += min(n, math.MaxInt-c.count)
}

// Error is how many fewer than an exact limiter admits there may be in a window, by so many clients; forgot: whether the limiter forgot in it.
func Error(r api.Rate, clients int, forgot bool) int {
	if forgot {
		return r.Limit
	}
	return clients * (r.Slice - 1)
}

// Exact is how many an exact limiter admits of so many that ask in one window.
func Exact(r api.Rate, asked int) int { return min(asked, r.Limit) }
