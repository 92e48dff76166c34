// Package ctx is layer 20: what a call carries.
package ctx

import (
	"pursebearer/api"
)

// Check tells how a call is wrong.
func Check(c api.Ctx) api.Errno { return 0 }

// Root is a fresh request's call, at a version.
func Root(r api.Request, version int, conf api.Conf) api.Ctx { return api.Ctx{} }

// Try is the n-th attempt of a call, with so much of its allowance.
func Try(c api.Ctx, n, purse int) api.Ctx { return api.Ctx{} }

// Kid is the i-th call (from 0 on) that an attempt makes, of so many, with messages that take so many ticks.
func Kid(c api.Ctx, i, n, hop int) api.Ctx { return api.Ctx{} }

// Copy is a call's copy, that spends nothing and takes no effect.
func Copy(c api.Ctx) api.Ctx { return api.Ctx{} }

// Span is an attempt's name.
func Span(c api.Ctx) string { return "" }

// Key is what is the same of all attempts of a call, whichever attempt of what is around made it.
func Key(c api.Ctx) string { return "" }

// Up is the name of the attempt in which a call, or an attempt, of a name was made; empty: there is none.
func Up(name string) string { return "" }

// Depth is how many attempts are around one of a name.
func Depth(name string) int { return 0 }
