// Package script is layer 35: scripts in print.
package script

import (
	"pursebearer/api"
)

// Check tells how a script is wrong: the line (from 0 on), and how.
func Check(l []api.Line) (int, api.Errno) { return 0, 0 }

// Print is a line in print; Parse the line of a print.
func Print(x api.Line) (string, api.Errno) { return "", 0 }

// Parse is the line of a print.
func Parse(s string) (api.Line, api.Errno) { return api.Line{}, 0 }

// PrintConf and ParseConf: a configuration in print, and back.
func PrintConf(c api.Conf) string { return "" }

// ParseConf is the configuration of a print.
func ParseConf(s string) (api.Conf, api.Errno) { return api.Conf{}, 0 }

// Quiet is the tick from which on there is no fault, and all requests that came by then are past their deadlines.
func Quiet(l []api.Line) int { return 0 }
