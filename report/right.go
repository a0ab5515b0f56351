package report

import (
	"unicode/utf8"

	"visor/api"
	"visor/text"
)

// The greatest number of each sort that a right report has; the least one is always 0.
const (
	mostKind        = api.Packed
	mostTableStatus = api.Withheld
	mostStatus      = api.Absent
	mostMarks       = api.Broken | api.Hidden | api.Cut
	mostNumber      = 1<<16 - 1
	mostCount       = utf8.MaxRune + 1
)

const tagSize = 4

// right tells whether a report has bytes at all (P4).
func right(r api.Report) bool {
	return within(mostKind, r.Kind) &&
		rightTables(r.Tables) &&
		within(mostStatus, r.Head.Status, r.Rights.Status, r.Naming, r.Cover.Status) &&
		within(mostNumber, r.Head.Flags, r.Head.Units, r.Rights.Version, r.Rights.Bits, r.Cover.Form) &&
		rightNames(r.Names) &&
		within(mostCount, r.Cover.Count)
}

func rightTables(tables []api.Table) bool {
	// The number is asked first, so that a list of any length costs nothing.
	if len(tables) > api.MaxTables {
		return false
	}
	for _, t := range tables {
		if len(t.Tag) != tagSize || !within(mostTableStatus, t.Status) || !within(api.MaxFont, t.Size) {
			return false
		}
	}
	return true
}

func rightNames(names []api.Name) bool {
	if len(names) > api.MaxRecords {
		return false
	}
	for _, n := range names {
		if !within(mostNumber, n.Platform, n.Encoding, n.Language, n.ID) ||
			!within(mostStatus, n.Status) || !within(mostMarks, n.Marks) || !rightText(n.Text) {
			return false
		}
	}
	return true
}

func rightText(s string) bool {
	// The range below takes a byte that is no UTF-8 for the character fffd, which may stand in a text too: so that is asked first.
	if len(s) > api.MaxText || !utf8.ValidString(s) {
		return false
	}
	for _, c := range s {
		if text.Harmful(c) {
			return false
		}
	}
	return true
}

func within(most int, numbers ...int) bool {
	for _, n := range numbers {
		if n < 0 || n > most {
			return false
		}
	}
	return true
}
