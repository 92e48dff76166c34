package script

import (
	"pursebearer/api"
)

// words either puts what it is handed into words, or takes it from words.
type words interface {
	do(*int) // what a line does
	number(*int)
	truth(*bool)
	text(*string)
	count(have int) int // how many a list has
	odd() bool          // whether words could not be taken
}

// word is the word of what a line does; empty, if there is none.
func word(do int) string {
	switch do {
	case api.DoAsk:
		return "ask"
	case api.DoFault:
		return "fault"
	case api.DoPublish:
		return "publish"
	case api.DoRotate:
		return "rotate"
	}
	return ""
}

// list goes through a list, that grows as far as words say so.
func list[T any](w words, l *[]T, each func(words, *T)) {
	n := w.count(len(*l))
	for i := 0; i < n && !w.odd(); i++ {
		if i == len(*l) {
			var x T
			*l = append(*l, x)
		}
		each(w, &(*l)[i])
	}
}

func numbers(w words, l ...*int) {
	for _, n := range l {
		w.number(n)
	}
}

func line(w words, x *api.Line) {
	w.do(&x.Do)
	switch x.Do {
	case api.DoAsk:
		r := &x.R
		numbers(w, &r.ID, &r.At)
		w.text(&r.Path)
		list(w, &r.Heads, head)
		w.number(&r.Prio)
		w.truth(&r.Idem)
		numbers(w, &r.Life, &r.Purse)
	case api.DoFault:
		f := &x.F
		numbers(w, &f.Kind, &f.From, &f.To, &f.A, &f.B, &f.N)
	case api.DoPublish:
		w.number(&x.At)
		conf(w, &x.C)
	case api.DoRotate:
		w.number(&x.At)
	}
}

func conf(w words, c *api.Conf) {
	list(w, &c.Services, service)
	list(w, &c.Ends, func(w words, e *api.End) { numbers(w, &e.ID, &e.Service, &e.Zone) })
	list(w, &c.Rules, rule)
	list(w, &c.Rates, func(w words, r *api.Rate) { numbers(w, &r.Limit, &r.Window, &r.Slice) })
	h := &c.Watch
	numbers(w, &h.Errors, &h.Window, &h.Dev, &h.Slow, &h.Share, &h.Base, &h.Top)
	numbers(w, &c.Panic, &c.Low, &c.High, &c.Wait, &c.Hop, &c.Life, &c.Purse, &c.Horizon, &c.Sample)
}

func service(w words, s *api.Service) {
	w.number(&s.ID)
	list(w, &s.Kids, text)
	numbers(w, &s.Work, &s.Slots, &s.Queue, &s.Balance, &s.Warm)
}

func text(w words, s *string) { w.text(s) }

func head(w words, h *api.Head) {
	w.text(&h.Name)
	w.text(&h.Value)
}

func rule(w words, r *api.Rule) {
	w.text(&r.M.Path)
	w.truth(&r.M.Exact)
	list(w, &r.M.Heads, head)
	list(w, &r.Parts, func(w words, p *api.Part) { numbers(w, &p.Service, &p.Weight) })
	numbers(w, &r.Mirror, &r.Inject.Abort, &r.Inject.Delay, &r.Inject.Ticks)
	w.text(&r.Prefix)
	list(w, &r.Set, head)
	list(w, &r.Drop, text)
	p := &r.P
	numbers(w, &p.Timeout, &p.Tries, &p.Back, &p.Hedge, &p.Budget.Per, &p.Budget.Of, &p.Budget.Burst, &r.Rate)
}
