// Package graph is layer 33: who calls whom, and how often at most.
package graph

import (
	"pursebearer/api"
)

// Depth is how many calls may be within one another, by their deadlines.
func Depth(c api.Conf) int { return 0 }

// Kids are the services to which a service's calls may go, call by call (copies among the last ones).
func Kids(c api.Conf, service int) [][]int { return nil }

// Walks is how many calls one call to a service makes of another one, at most, its own counted, within so many others.
func Walks(c api.Conf, from, to, depth int) int { return 0 }

// Factor is how many attempts reach a service, at most, for each fresh request; at most api.Most.
func Factor(c api.Conf, service int) int { return 0 }

// Alone is how many ticks a request of a path takes at most, if it is alone, and nothing fails; false: it may not come to an end.
func Alone(c api.Conf, path string) (int, bool) { return 0, false }
