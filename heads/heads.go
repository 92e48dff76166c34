// Package heads is layer 4: heads of requests.
package heads

import (
	"pursebearer/api"
)

// Check tells how heads are wrong.
func Check(l []api.Head) api.Errno { return 0 }

// Get is the value of a name.
func Get(l []api.Head, name string) (string, bool) { return "", false }

// Set are heads with some set.
func Set(l []api.Head, by ...api.Head) []api.Head { return nil }

// Drop are heads without some names.
func Drop(l []api.Head, names ...string) []api.Head { return nil }

// Same tells whether two say the same.
func Same(a, b []api.Head) bool { return false }

// Print are heads in print.
func Print(l []api.Head) string { return "" }
