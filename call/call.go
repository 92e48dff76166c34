// Package call is layer 31: attempts of a call.
package call

import (
	"pursebearer/api"
	"pursebearer/token"
)

// What a call does.
const (
	Sends = 1 + iota // the attempt C
	Wakes            // it has to be woken at At
	Ends             // it is over, with E
	Drops            // the attempt C is not waited for any more
)

// Act is what a call does.
type Act struct {
	What, At int
	C        api.Ctx
	E        api.Errno
}

// Call is a call that a proxy makes: attempts, one behind the other, or beside each other.
type Call struct{}

// New is a call, by a policy, with a bucket of tokens.
func New(c api.Ctx, p api.Policy, b *token.Bucket) *Call { return nil }

// Begin begins it.
func (c *Call) Begin(now int) []Act { return nil }

// Answer is that an attempt was answered (OK: well), and not to be asked again ahead of a tick.
func (c *Call) Answer(now, try int, e api.Errno, not int) []Act { return nil }

// Wake wakes it.
func (c *Call) Wake(now int) []Act { return nil }

// Over tells whether it is over, and with what.
func (c *Call) Over() (bool, api.Errno) { return false, 0 }

// Tries is how many attempts were made; Open those that are waited for.
func (c *Call) Tries() int { return 0 }

// Open are the attempts that are waited for.
func (c *Call) Open() []int { return nil }

// Purse is what is left of its allowance.
func (c *Call) Purse() int { return 0 }
