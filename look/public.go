package look

import (
	"math"

	"visor/api"
	"visor/window"
)

// Public tells of each byte of a file whether what Inspect answers may hang on it (P6).
func Public(p api.Policy, font string) ([]bool, api.Errno) {
	if e := refusal(p, font); e != api.OK {
		return nil, e
	}
	f := window.Open(font, math.MaxInt)
	public := make([]bool, f.Size())
	mark(public, f.Window(0, headerSize), true)
	d := open(p, f)
	mark(public, d.records, true)
	for _, t := range d.tables {
		if t.Status == api.Good {
			mark(public, t.view, true)
		}
	}
	hide(public, naming(p, d))
	return public, api.OK
}

// hide takes the texts that are held back out, and puts in again what of them others show. (A name that is neither Withheld nor Outside is Good, as long as its text is not read.)
func hide(public []bool, n names) {
	for _, one := range n.list {
		if one.Status == api.Withheld {
			mark(public, one.view, false)
		}
	}
	mark(public, n.ahead, true)
	for _, one := range n.list {
		if one.Status == api.Good {
			mark(public, one.view, true)
		}
	}
}

func mark(public []bool, view window.Table, as bool) {
	begin, end := view.Places()
	for at := begin; at < end; at++ {
		public[at] = as
	}
}
