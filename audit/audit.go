// Package audit is layer 36: what a run shows.
package audit

import (
	"pursebearer/api"
	"pursebearer/collect"
	"pursebearer/trace"
)

// Reached is how many attempts reached a service, and how many fresh requests there were.
func Reached(l []api.Event, service int) (attempts, fresh int) { return 0, 0 }

// Twice are keys that took effect twice within so many ticks.
func Twice(l []api.Event, horizon int) []string { return nil }

// Late are attempts whose work began behind their deadline.
func Late(l []api.Event) []string { return nil }

// Torn are requests whose calls were routed by two versions.
func Torn(l []api.Event) []int { return nil }

// Admitted is how many calls a rate admitted in a window.
func Admitted(l []api.Event, rate, from, to int) int { return 0 }

// True tells whether a tree is part of what truly happened, and just what was lost is marked.
func True(l []collect.Node, t *trace.Log, lost []string) bool { return false }

// Calm is how many ticks behind the last fault, and the last deadline, all is well again.
func Calm(c api.Conf) int { return 0 }

// Good is how many requests that came from a tick on were answered well, and how many there were.
func Good(l []api.Event, from int) (well, all int) { return 0, 0 }
