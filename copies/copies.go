// Package copies makes rules, configurations and lines in memory of their own.
package copies

import (
	"slices"

	"pursebearer/api"
)

// Rule is a rule in memory of its own.
func Rule(r api.Rule) api.Rule {
	r.M.Heads, r.Parts = slices.Clone(r.M.Heads), slices.Clone(r.Parts)
	r.Set, r.Drop = slices.Clone(r.Set), slices.Clone(r.Drop)
	return r
}

// Service is a service in memory of its own.
func Service(s api.Service) api.Service {
	s.Kids = slices.Clone(s.Kids)
	return s
}

// Conf is a configuration in memory of its own.
func Conf(c api.Conf) api.Conf {
	c.Services = each(c.Services, Service)
	c.Ends, c.Rates = slices.Clone(c.Ends), slices.Clone(c.Rates)
	c.Rules = each(c.Rules, Rule)
	return c
}

// Lines are lines in memory of their own.
func Lines(l []api.Line) []api.Line {
	return each(l, func(x api.Line) api.Line {
		x.R.Heads, x.C = slices.Clone(x.R.Heads), Conf(x.C)
		return x
	})
}

func each[T any](l []T, copied func(T) T) []T {
	var out []T
	for _, x := range l {
		out = append(out, copied(x))
	}
	return out
}
