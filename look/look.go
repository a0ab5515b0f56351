// Package look tells what is in a font's file, and which of its bytes that hangs on.
package look

import (
	"visor/api"
	"visor/window"
)

// Inspect answers the report of a file, and what it took (P5).
func Inspect(p api.Policy, font string, budget int) (api.Report, api.Meter, api.Errno) {
	if e := refusal(p, font); e != api.OK {
		return api.Report{}, api.Meter{}, e
	}
	f := window.Open(font, budget)
	r := tell(p, f)
	if f.Spent() {
		return api.Report{}, f.Told(), api.ErrBudget
	}
	return r, f.Told(), api.OK
}

// refusal tells why a file is not looked at at all.
func refusal(p api.Policy, font string) api.Errno {
	if !policy(p) {
		return api.ErrPolicy
	}
	if len(font) > api.MaxFont {
		return api.ErrFont
	}
	return api.OK
}

func tell(p api.Policy, f *window.File) api.Report {
	d := open(p, f)
	names := naming(p, d)
	return api.Report{
		Kind:   d.kind,
		Tables: d.told(),
		Head:   head(d.table("head")),
		Rights: rights(d.table("OS/2")),
		Naming: names.status,
		Names:  names.told(p.Text),
		Cover:  cover(d.table("cmap")),
	}
}
