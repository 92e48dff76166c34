// Package collect is layer 30: trees that are built again.
package collect

import (
	"pursebearer/api"
)

// Node is a span of a tree that is built again, or one that is missing.
type Node struct {
	Name    string
	Missing bool
	S       api.Span
}

// Collector takes spans, late, twice, or never.
type Collector struct{}

// New is one that has none.
func New() *Collector { return nil }

// Take takes a span; false: it has it already.
func (c *Collector) Take(s api.Span) bool { return false }

// Tree is a request's tree: by their names, those that came, and those that are known to be missing.
func (c *Collector) Tree(req int) []Node { return nil }

// Whole tells whether nothing is known to be missing.
func (c *Collector) Whole(req int) bool { return false }

// Print is a tree in print.
func Print(l []Node) string { return "" }
