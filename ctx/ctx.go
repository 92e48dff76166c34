// Package ctx is layer 20: what a call carries.
package ctx

import (
	"math"
	"strconv"
	"strings"

	"pursebearer/api"
	"pursebearer/fix"
	"pursebearer/names"
)

// Check tells how a call is wrong.
func Check(c api.Ctx) api.Errno {
	within := func(n, low, high int) bool { return n >= low && n <= high }
	kind, req := names.Read(c.Call)
	right := kind == names.Call && c.Req == req && within(req, 1, api.MaxRequests) &&
		within(c.Try, 0, api.MaxTries) &&
		c.Shadow == strings.Contains(c.Call, "~") &&
		within(c.Deadline, -api.MaxTime, 2*api.MaxTime) &&
		within(c.Purse, 0, api.MaxPurse) && (c.Purse == 0 || !c.Shadow) &&
		within(c.Version, 0, api.MaxVersions) && within(c.Prio, 0, api.MaxPrio)
	if !right {
		return api.ErrArg
	}
	return api.OK
}

// Root is a fresh request's call, at a version.
func Root(r api.Request, version int, conf api.Conf) api.Ctx {
	return api.Ctx{
		Req:      r.ID,
		Call:     strconv.Itoa(r.ID),
		Idem:     r.Idem,
		Deadline: r.At + min(r.Life, conf.Life),
		Purse:    min(r.Purse, conf.Purse),
		Version:  version,
		Prio:     fix.Clamp(r.Prio, 0, api.MaxPrio),
	}
}

// Try is the n-th attempt of a call, with so much of its allowance.
func Try(c api.Ctx, n, purse int) api.Ctx {
	c.Try, c.Purse = n, purse
	return c
}

// Kid is the i-th call (from 0 on) that an attempt makes, of so many, with messages that take so many ticks.
func Kid(c api.Ctx, i, n, hop int) api.Ctx {
	c.Call = Span(c) + "/" + strconv.Itoa(i)
	c.Try = 0
	c.Deadline = ahead(c.Deadline, hop)
	c.Purse = share(c.Purse, i, n)
	return c
}

// ahead is the tick that is so many ahead of another one; the least int, where that would be less still, for a deadline does not rise.
func ahead(at, ticks int) int {
	if ticks > 0 && at < math.MinInt+ticks {
		return math.MinInt
	}
	return at - ticks
}

// share is the i-th part of an allowance that is dealt to so many, as by package purse's Split; the others are not reckoned, for how many they are, and how much is dealt, has no bound here.
func share(n, i, kids int) int {
	if i < 0 || i >= kids || n < 1 {
		return 0
	}
	part := n / kids
	if i < n%kids {
		part++
	}
	return part
}

// Copy is a call's copy, that spends nothing and takes no effect.
func Copy(c api.Ctx) api.Ctx {
	c.Call += "~"
	c.Shadow = true
	c.Purse = 0
	return c
}

// Span is an attempt's name.
func Span(c api.Ctx) string {
	if c.Try > 0 {
		return c.Call + ":" + strconv.Itoa(c.Try)
	}
	return c.Call
}

// Key is what is the same of all attempts of a call, whichever attempt of what is around made it.
func Key(c api.Ctx) string {
	var key []byte
	drop := false // whether what is read is the number of an attempt
	for i := range len(c.Call) {
		b := c.Call[i]
		drop = b == ':' || drop && b >= '0' && b <= '9'
		if !drop {
			key = append(key, b)
		}
	}
	return string(key)
}

// Up is the name of the attempt in which a call, or an attempt, of a name was made; empty: there is none.
func Up(name string) string {
	return name[:max(0, strings.LastIndex(name, "/"))]
}

// Depth is how many attempts are around one of a name.
func Depth(name string) int { return strings.Count(name, "/") }
