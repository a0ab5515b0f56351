// Package window looks at a file through windows: none of them shows more than the one it was made from, and each byte that is read through any of them is counted.
package window

// File is a window on a whole file.
type File struct {
	Meter
	data string
}

// Open answers a window that lets so many steps be taken (a budget below 0 is as 0).
func Open(data string, budget int) *File {
	return &File{Meter: Meter{left: max(budget, 0)}, data: data}
}

// Size tells how many bytes there are to be seen.
func (f *File) Size() int {
	return len(f.data)
}

// Byte reads the byte at a place. One that is not there is 0, and so is one for which no step is left: who reads goes on, and asks at the end whether the budget is spent.
func (f *File) Byte(at int) int {
	if at < 0 || at >= len(f.data) || !f.read() {
		return 0
	}
	return int(f.data[at])
}

// Holds tells whether what begins at a place, and has that size, lies in the file.
func (f *File) Holds(begin, size int) bool {
	return holds(len(f.data), begin, size)
}

// Window answers a window on a piece of the file, as far as it lies there.
func (f *File) Window(begin, size int) Table {
	begin, size = clip(len(f.data), begin, size)
	return Table{File: f, begin: begin, size: size}
}

// holds makes no sum of numbers from a file, so that none can be too great.
func holds(whole, begin, size int) bool {
	return begin <= whole && size <= whole-begin
}

func clip(whole, begin, size int) (int, int) {
	begin = min(max(begin, 0), whole)
	return begin, min(max(size, 0), whole-begin)
}
