// Package collect is layer 30: trees that are built again.
package collect

import (
	"iter"
	"maps"
	"slices"
	"strconv"
	"strings"

	"pursebearer/api"
	"pursebearer/ctx"
	"pursebearer/names"
)

// Node is a span of a tree that is built again, or one that is missing.
type Node struct {
	Name    string
	Missing bool
	S       api.Span
}

// Collector takes spans, late, twice, or never.
type Collector struct {
	spans map[int]map[string]api.Span // by request, and name
}

// New is one that has none.
func New() *Collector { return &Collector{spans: map[int]map[string]api.Span{}} }

// Take takes a span; false: it has it already.
func (c *Collector) Take(s api.Span) bool {
	_, req := names.Read(s.Name)
	if _, ok := c.spans[req][s.Name]; ok {
		return false
	}
	if c.spans[req] == nil {
		c.spans[req] = map[string]api.Span{}
	}
	c.spans[req][s.Name] = s
	return true
}

// around tells what is around an attempt, from the nearest one on.
func around(name string) iter.Seq[string] {
	return func(yield func(string) bool) {
		for up := ctx.Up(name); up != ""; up = ctx.Up(up) {
			if !yield(up) {
				return
			}
		}
	}
}

// Tree is a request's tree: by their names, those that came, and those that are known to be missing.
func (c *Collector) Tree(req int) []Node {
	nodes := map[string]Node{}
	for name, s := range c.spans[req] {
		nodes[name] = Node{Name: name, S: s}
		for up := range around(name) {
			if _, ok := c.spans[req][up]; !ok {
				nodes[up] = Node{Name: up, Missing: true}
			}
		}
	}
	var l []Node
	for _, name := range slices.Sorted(maps.Keys(nodes)) {
		l = append(l, nodes[name])
	}
	return l
}

// Whole tells whether nothing is known to be missing.
func (c *Collector) Whole(req int) bool {
	return !slices.ContainsFunc(c.Tree(req), func(n Node) bool { return n.Missing })
}

// Print is a tree in print.
func Print(l []Node) string {
	var b strings.Builder
	for _, n := range l {
		b.WriteString(strings.Repeat(" ", ctx.Depth(n.Name)) + n.Name)
		if n.Missing {
			b.WriteString(" ?")
		} else {
			b.WriteString(" " + strconv.Itoa(n.S.Service) + " " + strconv.Itoa(n.S.From) + "-" + strconv.Itoa(n.S.To))
			if !n.S.Well {
				b.WriteString(" !")
			}
		}
		b.WriteString("\n")
	}
	return b.String()
}
