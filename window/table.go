package window

// Table is a window on a table, or on a piece of one: its places begin with the table's first byte. It has a method of its own for each one of File's that takes a place or tells a size, since File's would take the place for one of the file.
type Table struct {
	*File // the one file, not a copy, so that all windows have the same meter
	begin int
	size  int
}

// Size tells how many bytes there are to be seen.
func (t Table) Size() int {
	return t.size
}

// Byte reads the byte at a place, as File's does; one behind the table's end is not there.
func (t Table) Byte(at int) int {
	if at < 0 || at >= t.size {
		return 0
	}
	return t.File.Byte(t.begin + at)
}

// Holds tells whether what begins at a place, and has that size, lies in the table.
func (t Table) Holds(begin, size int) bool {
	return holds(t.size, begin, size)
}

// Window answers a window on a piece of the table, as far as it lies there.
func (t Table) Window(begin, size int) Table {
	begin, size = clip(t.size, begin, size)
	return Table{File: t.File, begin: t.begin + begin, size: size}
}

// Two reads the number of two bytes at a place.
func (t Table) Two(at int) int {
	return t.Byte(at)<<8 | t.Byte(at+1)
}

// Four reads the number of four bytes at a place.
func (t Table) Four(at int) int {
	return t.Two(at)<<16 | t.Two(at+2)
}

// Bytes reads all that there is to be seen, and answers a copy of it. It stops with the first byte that is refused, since there may be many behind it.
func (t Table) Bytes() string {
	out := make([]byte, 0, t.size)
	for at := 0; at < t.size && !t.Spent(); at++ {
		out = append(out, byte(t.Byte(at)))
	}
	return string(out)
}

// Shares tells whether there is a byte that both windows show.
func (t Table) Shares(other Table) bool {
	return max(t.begin, other.begin) < min(t.begin+t.size, other.begin+other.size)
}

// Places answers where in the file the window begins, and where it ends.
func (t Table) Places() (int, int) {
	return t.begin, t.begin + t.size
}
