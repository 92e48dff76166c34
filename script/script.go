// Package script is layer 35: scripts in print.
package script

import (
	"pursebearer/api"
	"pursebearer/heads"
	"pursebearer/link"
	"pursebearer/match"
)

// Check tells how a script is wrong: the line (from 0 on), and how.
func Check(l []api.Line) (int, api.Errno) {
	asked, faults := map[int]bool{}, 0
	for i, x := range l {
		e := api.OK
		switch {
		case !mayBe(x):
			e = api.ErrForm
		case x.Do == api.DoAsk:
			e = checkAsk(x.R, asked[x.R.ID])
			asked[x.R.ID] = true
		case x.Do == api.DoFault && faults >= api.MaxFaults:
			e = api.ErrFull
		case x.Do == api.DoFault:
			e = link.Check(x.F)
			faults++
		case !within(x.At, 0, api.MaxSteps):
			e = api.ErrRange
		}
		if e != api.OK {
			return i, e
		}
	}
	return 0, api.OK
}

func checkAsk(r api.Request, twice bool) api.Errno {
	switch {
	case !within(r.ID, 1, api.MaxRequests):
		return api.ErrArg
	case twice:
		return api.ErrTwice
	case !within(r.At, 0, api.MaxSteps) || !within(r.Life, 1, api.MaxWait) || !within(r.Purse, 0, api.MaxPurse):
		return api.ErrRange
	case !match.Path(r.Path):
		return api.ErrPath
	}
	return heads.Check(r.Heads)
}

func within(n, low, high int) bool { return n >= low && n <= high }

// mayBe tells whether a line does something, and has nothing that it would not print.
func mayBe(x api.Line) bool {
	if word(x.Do) == "" {
		return false
	}
	at, r, f, c := x.Do == api.DoPublish || x.Do == api.DoRotate, x.Do == api.DoAsk, x.Do == api.DoFault, x.Do == api.DoPublish
	return (at || x.At == 0) && (r || isNone(x.R)) && (f || x.F == api.Fault{}) && (c || PrintConf(x.C) == PrintConf(api.Conf{}))
}

func isNone(r api.Request) bool {
	return r.ID == 0 && r.At == 0 && r.Path == "" && len(r.Heads) == 0 && r.Prio == 0 && !r.Idem && r.Life == 0 && r.Purse == 0
}

// Print is a line in print; Parse the line of a print.
func Print(x api.Line) (string, api.Errno) {
	if !mayBe(x) {
		return "", api.ErrForm
	}
	p := &putter{}
	line(p, &x)
	return p.print(), api.OK
}

// Parse is the line of a print.
func Parse(s string) (api.Line, api.Errno) {
	t := take(s)
	var x api.Line
	line(t, &x)
	if !t.whole() {
		return api.Line{}, api.ErrForm
	}
	return x, api.OK
}

// PrintConf and ParseConf: a configuration in print, and back.
func PrintConf(c api.Conf) string {
	p := &putter{}
	conf(p, &c)
	return p.print()
}

// ParseConf is the configuration of a print.
func ParseConf(s string) (api.Conf, api.Errno) {
	t := take(s)
	var c api.Conf
	conf(t, &c)
	if !t.whole() {
		return api.Conf{}, api.ErrForm
	}
	return c, api.OK
}

// Quiet is the tick from which on there is no fault, and all requests that came by then are past their deadlines.
func Quiet(l []api.Line) int {
	quiet := 0
	for _, x := range l {
		at := x.At
		switch x.Do {
		case api.DoAsk:
			at = x.R.At + x.R.Life
		case api.DoFault:
			at = x.F.To
		}
		quiet = max(quiet, at)
	}
	return quiet
}
