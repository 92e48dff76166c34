// Package match is layer 5: which requests a rule is for.
package match

import (
	"slices"
	"strings"

	"pursebearer/api"
	"pursebearer/heads"
)

// Path tells whether a text may be a path.
func Path(s string) bool {
	if len(s) == 0 || len(s) > api.MaxText || s[0] != '/' {
		return false
	}
	if s == "/" {
		return true
	}
	ahead := byte(0)
	odd := strings.ContainsFunc(s, func(c rune) bool {
		empty := c == '/' && ahead == '/'
		ahead = byte(c)
		return empty || c != '/' && !sign(c)
	})
	return !odd && ahead != '/'
}

func sign(c rune) bool {
	return c >= 'a' && c <= 'z' || c >= '0' && c <= '9' || c == '-' || c == '_' || c == '.'
}

// Check tells how a match is wrong.
func Check(m api.Match) api.Errno {
	if !Path(m.Path) {
		return api.ErrPath
	}
	return heads.Check(m.Heads)
}

// Fits tells whether a request is one of those that it is for.
func Fits(m api.Match, path string, heads []api.Head) bool {
	return On(m, path) && answers(heads, m.Heads)
}

// answers tells whether heads have all that are asked.
func answers(l, asked []api.Head) bool {
	return !slices.ContainsFunc(asked, func(h api.Head) bool {
		v, ok := heads.Get(l, h.Name)
		return !ok || h.Value != "" && v != h.Value
	})
}

// On tells whether some request of a path may fit.
func On(m api.Match, path string) bool {
	if !Path(path) {
		return false
	}
	return path == m.Path || !m.Exact && begins(path, m.Path)
}

// begins tells whether a path has more parts than another one, and that one's ahead of them.
func begins(path, by string) bool {
	return by == "/" || strings.HasPrefix(path, by+"/")
}

// Cmp tells which one comes first: -1 the first one, 1 the second one, 0 neither.
func Cmp(a, b api.Match) int {
	x, y := rank(a), rank(b)
	for i := range x {
		if x[i] != y[i] {
			if x[i] > y[i] {
				return -1
			}
			return 1
		}
	}
	return 0
}

// rank are the numbers by which matches come: the one that has the greater one first.
func rank(m api.Match) [3]int {
	r := [3]int{0, strings.Count(m.Path, "/"), len(m.Heads)}
	if m.Exact {
		r[0] = 1
	}
	if m.Path == "/" {
		r[1] = 0
	}
	return r
}
