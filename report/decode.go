package report

import (
	"strings"

	"visor/api"
)

// Decode answers the report that has these bytes (P4).
func Decode(b string) (api.Report, api.Errno) {
	in := reader{rest: b}
	r := in.report()
	if in.short || in.rest != "" || !right(r) {
		return api.Report{}, api.ErrReport
	}
	return r, api.OK
}

// reader answers noughts where bytes are missing, and goes on: Decode asks at the end whether some were.
type reader struct {
	rest  string
	short bool
}

func (in *reader) take(size int) string {
	if size > len(in.rest) {
		in.short = true
		return ""
	}
	taken := in.rest[:size]
	in.rest = in.rest[size:]
	return taken
}

// bytes answers a copy, since what is told must not keep all that it was read from.
func (in *reader) bytes(size int) string {
	return strings.Clone(in.take(size))
}

func (in *reader) number(size int) int {
	n := 0
	for _, b := range []byte(in.take(size)) {
		n = n<<8 | int(b)
	}
	return n
}

func (in *reader) one() int  { return in.number(1) }
func (in *reader) two() int  { return in.number(2) }
func (in *reader) four() int { return in.number(4) }

// The literals below stand in the order of the bytes, as the calls in them are made from left to right.

func (in *reader) report() api.Report {
	return api.Report{
		Kind:   in.one(),
		Tables: list(in.one(), in.table),
		Head:   api.Head{Status: in.one(), Flags: in.two(), Units: in.two()},
		Rights: api.Rights{Status: in.one(), Version: in.two(), Bits: in.two()},
		Naming: in.one(),
		Names:  list(in.one(), in.name),
		Cover:  api.Cover{Status: in.one(), Form: in.two(), Count: in.four()},
	}
}

func (in *reader) table() api.Table {
	return api.Table{Tag: in.bytes(tagSize), Status: in.one(), Size: in.two()}
}

func (in *reader) name() api.Name {
	return api.Name{
		Platform: in.two(),
		Encoding: in.two(),
		Language: in.two(),
		ID:       in.two(),
		Status:   in.one(),
		Marks:    in.one(),
		Text:     in.bytes(in.one()),
	}
}

// list needs no bound of its own: a number of one byte is small, and right asks whether it is too great.
func list[T any](size int, next func() T) []T {
	var out []T
	for range size {
		out = append(out, next())
	}
	return out
}
