// Package rewrite is layer 7: what paths and heads become.
package rewrite

import (
	"pursebearer/api"
)

// Check tells how a rule's rewriting is wrong.
func Check(r api.Rule) api.Errno { return 0 }

// Path is what a path becomes.
func Path(r api.Rule, path string) string { return "" }

// Heads are what heads become.
func Heads(r api.Rule, l []api.Head) []api.Head { return nil }
