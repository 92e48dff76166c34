// Package heads is layer 4: heads of requests.
package heads

import (
	"slices"
	"strconv"
	"strings"

	"pursebearer/api"
)

const maxName = 20 // bytes of a Name

// Check tells how heads are wrong.
func Check(l []api.Head) api.Errno {
	if len(l) > api.MaxHeads {
		return api.ErrLong
	}
	for i, h := range l {
		if !name(h.Name) || !value(h.Value) {
			return api.ErrHead
		}
		if place(l[:i], h.Name) >= 0 {
			return api.ErrTwice
		}
	}
	return api.OK
}

func name(s string) bool {
	for i := range len(s) {
		if c := s[i]; (c < 'a' || c > 'z') && (c < '0' || c > '9') && c != '-' {
			return false
		}
	}
	return len(s) >= 1 && len(s) <= maxName
}

func value(s string) bool {
	for i := range len(s) {
		if s[i] < 32 || s[i] > 126 {
			return false
		}
	}
	return len(s) <= api.MaxText
}

// place is where a Name stands; -1, if it does not.
func place(l []api.Head, name string) int {
	return slices.IndexFunc(l, func(h api.Head) bool { return h.Name == name })
}

// Get is the value of a name.
func Get(l []api.Head, name string) (string, bool) {
	i := place(l, name)
	if i < 0 {
		return "", false
	}
	return l[i].Value, true
}

// Set are heads with some set.
func Set(l []api.Head, by ...api.Head) []api.Head {
	out := append([]api.Head(nil), l...)
	for _, h := range by {
		if i := place(out, h.Name); i >= 0 {
			out[i].Value = h.Value
		} else if len(out) < api.MaxHeads {
			out = append(out, h)
		}
	}
	return out
}

// Drop are heads without some names.
func Drop(l []api.Head, names ...string) []api.Head {
	var out []api.Head
	for _, h := range l {
		if !slices.Contains(names, h.Name) {
			out = append(out, h)
		}
	}
	return out
}

// Same tells whether two say the same.
func Same(a, b []api.Head) bool {
	if len(a) != len(b) {
		return false
	}
	return !slices.ContainsFunc(a, func(h api.Head) bool {
		v, ok := Get(b, h.Name)
		return !ok || v != h.Value
	})
}

// Print are heads in print.
func Print(l []api.Head) string {
	words := make([]string, len(l))
	for i, h := range l {
		words[i] = h.Name + ":" + strconv.Itoa(len(h.Value)) + ":" + h.Value
	}
	return strings.Join(words, " ")
}
