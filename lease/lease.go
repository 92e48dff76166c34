// Package lease is layer 24: rates, leased in slices.
package lease

import (
	"pursebearer/api"
)

// Check tells how a rate is wrong.
func Check(r api.Rate) api.Errno { return 0 }

// Limiter leases slices of a rate.
type Limiter struct{}

// NewLimiter is one that has leased nothing.
func NewLimiter(r api.Rate) *Limiter { return nil }

// Ask is how many it leases at a tick.
func (l *Limiter) Ask(now int) int { return 0 }

// Forget lets it forget, from a tick on.
func (l *Limiter) Forget(now int) {}

// Client is one who has leases.
type Client struct{}

// NewClient is one who has none.
func NewClient(r api.Rate) *Client { return nil }

// Use admits a call, if there is something left of this window.
func (c *Client) Use(now int) bool { return false }

// Give gives it a lease.
func (c *Client) Give(now, n int) {}

// Error is how many fewer than an exact limiter admits there may be in a window, by so many clients; forgot: whether the limiter forgot in it.
func Error(r api.Rate, clients int, forgot bool) int { return 0 }

// Exact is how many an exact limiter admits of so many that ask in one window.
func Exact(r api.Rate, asked int) int { return 0 }
