// Package rewrite is layer 7: what paths and heads become.
package rewrite

import (
	"slices"
	"strings"

	"pursebearer/api"
	"pursebearer/heads"
	"pursebearer/match"
)

// name is the Name of a head.
type name string

// odd tells whether no head may have it.
func (n name) odd() bool {
	return heads.Check([]api.Head{{Name: string(n)}}) != api.OK
}

// Check tells how a rule's rewriting is wrong.
func Check(r api.Rule) api.Errno {
	if r.Prefix != "" && !match.Path(r.Prefix) {
		return api.ErrPath
	}
	if e := heads.Check(r.Set); e != api.OK {
		return e
	}
	if len(r.Drop) > api.MaxHeads {
		return api.ErrLong
	}
	if some(r.Drop, name.odd) {
		return api.ErrHead
	}
	return api.OK
}

func some(l []string, is func(name) bool) bool {
	return slices.ContainsFunc(l, func(s string) bool { return is(name(s)) })
}

// Path is what a path becomes.
func Path(r api.Rule, path string) string {
	if r.Prefix == "" || !match.On(r.M, path) {
		return path
	}
	if r.M.Exact {
		return r.Prefix
	}
	out := ""
	put := func(p string) {
		if p != "/" {
			out += p
		}
	}
	put(r.Prefix)
	put(behind(path, r.M.Path))
	switch {
	case out == "":
		return "/"
	case len(out) > api.MaxText:
		return path
	}
	return out
}

// behind are the parts of a path that stand behind those with which it begins.
func behind(path, by string) string {
	if by == "/" {
		return path
	}
	return strings.TrimPrefix(path, by)
}

// Heads are what heads become.
func Heads(r api.Rule, l []api.Head) []api.Head {
	return heads.Set(heads.Drop(l, r.Drop...), r.Set...)
}
