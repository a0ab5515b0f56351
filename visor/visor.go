// Package visor: what is in a font's file: see DOC.md.
package visor

import (
	"visor/api"
	"visor/look"
	"visor/report"
	"visor/text"
)

// Session looks into one file after another. It keeps nothing of any of them, so that none can leave a trace.
type Session struct{}

// Text tells what a name's bytes say (P3).
func Text(platform int, encoding int, b string, limit int) (string, int, int) {
	return text.Tell(platform, encoding, b, limit)
}

// Encode writes a report (P4).
func Encode(r api.Report) (string, api.Errno) {
	return report.Encode(r)
}

// Decode reads a report (P4).
func Decode(b string) (api.Report, api.Errno) {
	return report.Decode(b)
}

// Public tells which bytes of a file may be looked at (P6).
func Public(p api.Policy, font string) ([]bool, api.Errno) {
	return look.Public(p, font)
}

// Inspect looks into a file (P5).
func Inspect(p api.Policy, font string, budget int) (api.Report, api.Meter, api.Errno) {
	return look.Inspect(p, font, budget)
}

// New begins a session (P7).
func New() *Session {
	return &Session{}
}

// Inspect looks into a file, as the function does (P7).
func (s *Session) Inspect(p api.Policy, font string, budget int) (api.Report, api.Meter, api.Errno) {
	if s == nil {
		return api.Report{}, api.Meter{}, api.ErrNil
	}
	return look.Inspect(p, font, budget)
}
