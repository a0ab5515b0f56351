package look

import (
	"unicode/utf8"

	"visor/api"
	"visor/window"
)

const (
	partRecords    = 4 // where they begin
	partRecordSize = 8
	formSize       = 2
)

func cover(t window.Table, status int) api.Cover {
	if status != api.Good {
		return api.Cover{Status: status}
	}
	part, status := partOf(t)
	if status != api.Good {
		return api.Cover{Status: status}
	}
	form, count := part.Two(0), 0
	switch form {
	case 4:
		count, status = countSmall(part)
	case 12:
		count, status = countGreat(part)
	default:
		status = api.Strange
	}
	if status != api.Good {
		return api.Cover{Status: status}
	}
	return api.Cover{Status: api.Good, Form: form, Count: count}
}

// partOf answers the part that is looked at, from its beginning to the table's end: how far it goes it tells itself.
func partOf(t window.Table) (window.Table, int) {
	count, status := countRecords(t, partRecords, partRecordSize)
	if status != api.Good {
		return window.Table{}, status
	}
	best, begin := unwanted, 0
	for i := range count {
		record := t.Window(partRecords+partRecordSize*i, partRecordSize)
		if rank := rankOf(record.Two(0), record.Two(2)); rank < best {
			best, begin = rank, record.Four(4)
		}
	}
	if best == unwanted {
		return window.Table{}, api.Strange
	}
	part := t.Window(begin, t.Size())
	if part.Size() < formSize {
		return window.Table{}, api.Short
	}
	return part, api.Good
}

// The parts, from the one that is wanted most to those that are not looked at.
const (
	whole = iota
	anyUnicode
	plain
	unwanted
)

func rankOf(platform, encoding int) int {
	switch {
	case platform == 3 && encoding == 10:
		return whole
	case platform == 0:
		return anyUnicode
	case platform == 3 && encoding == 1:
		return plain
	}
	return unwanted
}

// leastPart is the least size of a part of either form, without ranges. (In one that has fewer bytes, some of what is read below are noughts: but its size, whatever it says, is then below this, or more than there is.)
const leastPart = 16

// countSmall counts what a part of form 4 has: in two bytes each, all last characters, then all first ones.
func countSmall(part window.Table) (int, int) {
	size, twice := part.Two(2), part.Two(6)
	if size < leastPart || size > part.Size() {
		return 0, api.Short
	}
	if twice == 0 || twice%2 != 0 {
		return 0, api.Bad
	}
	if size < leastPart+4*twice {
		return 0, api.Short
	}
	count, end, ok := countRanges(twice/2, func(i int) (int, int) {
		return part.Two(16 + twice + 2*i), part.Two(14 + 2*i)
	})
	if !ok || end != mostNumber {
		return 0, api.Bad
	}
	return count - 1, api.Good
}

// countGreat counts what a part of form 12 has: in four bytes each, first and last character of each range.
func countGreat(part window.Table) (int, int) {
	size, ranges := part.Four(4), part.Four(12)
	if size < leastPart || size > part.Size() || size < leastPart+12*ranges {
		return 0, api.Short
	}
	count, end, ok := countRanges(ranges, func(i int) (int, int) {
		return part.Four(16 + 12*i), part.Four(20 + 12*i)
	})
	// The end of all ranges is the greatest of their last characters.
	if !ok || end > utf8.MaxRune {
		return 0, api.Bad
	}
	return count, api.Good
}

// countRanges tells how many numbers so many ranges have, and the last one's last number; not ok, if one ends ahead of its first number, or does not begin behind the one ahead of it.
func countRanges(ranges int, bounds func(i int) (first, last int)) (count, end int, ok bool) {
	end = -1
	for i := range ranges {
		first, last := bounds(i)
		if first > last || first <= end {
			return 0, 0, false
		}
		count += last - first + 1
		end = last
	}
	return count, end, true
}
