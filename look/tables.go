package look

import (
	"slices"

	"visor/api"
	"visor/window"
)

// openings has, for each kind, the four bytes that such a file may begin with.
var openings = [api.Packed + 1][3]string{
	api.Outlines: {"\x00\x01\x00\x00", "true"},
	api.Curves:   {"OTTO"},
	api.Packed:   {"ttcf", "wOFF", "wOF2"},
}

// hasTables tells of which kinds the tables are told.
var hasTables = [api.Packed + 1]bool{api.Outlines: true, api.Curves: true}

// keepsBytes tells with which status a table has its bytes for itself.
var keepsBytes = [api.Withheld + 1]bool{api.Good: true, api.Withheld: true}

const (
	headerSize = 12
	recordSize = 16
)

// directory is what a file tells of its tables, ahead of them.
type directory struct {
	kind    int
	file    *window.File
	records window.Table
	tables  []table
}

// table is what is told of one, and the window on it, which shows nothing of a table that does not lie where it may.
type table struct {
	api.Table
	view window.Table
}

func open(p api.Policy, f *window.File) directory {
	header := f.Window(0, headerSize)
	if header.Size() < headerSize {
		return directory{kind: api.None}
	}
	kind := kindOf(header.Window(0, tagSize).Bytes())
	if !hasTables[kind] {
		return directory{kind: kind}
	}
	count := header.Two(4)
	if count > api.MaxTables || !f.Holds(headerSize, recordSize*count) {
		return directory{kind: api.None}
	}
	d := directory{kind: kind, file: f, records: f.Window(headerSize, recordSize*count)}
	for i := range count {
		d.add(p, d.records.Window(recordSize*i, recordSize))
	}
	return d
}

func kindOf(opening string) int {
	for kind, list := range openings {
		for _, one := range list {
			if one == opening {
				return kind
			}
		}
	}
	return api.None
}

func (d *directory) add(p api.Policy, record window.Table) {
	tag := record.Window(0, tagSize).Bytes()
	begin, size := record.Four(8), record.Four(12)
	_, end := d.records.Places()
	inside := begin >= end && d.file.Holds(begin, size)
	if !inside {
		begin, size = 0, 0
	}
	t := table{Table: api.Table{Tag: tag, Size: size}, view: d.file.Window(begin, size)}
	t.Status = d.status(p, t, inside)
	d.tables = append(d.tables, t)
}

// status is asked ahead of the table being one of the directory's.
func (d *directory) status(p api.Policy, t table, inside bool) int {
	switch {
	case d.unsorted(t.Tag):
		return api.Unsorted
	case !inside:
		return api.Outside
	case d.shared(t.view):
		return api.Shared
	case slices.Contains(p.Tags, t.Tag):
		return api.Withheld
	}
	return api.Good
}

func (d *directory) unsorted(tag string) bool {
	count := len(d.tables)
	return count > 0 && tag <= d.tables[count-1].Tag
}

// shared takes a step for each table ahead, since it reads nothing that would be counted.
func (d *directory) shared(view window.Table) bool {
	for _, t := range d.tables {
		view.Step()
		if keepsBytes[t.Status] && view.Shares(t.view) {
			return true
		}
	}
	return false
}

func (d *directory) told() []api.Table {
	var out []api.Table
	for _, t := range d.tables {
		out = append(out, t.Table)
	}
	return out
}

// table answers the table of a tag, and its status: it may be looked at only if that is Good.
func (d *directory) table(tag string) (window.Table, int) {
	for _, t := range d.tables {
		if t.Tag == tag {
			return t.view, t.Status
		}
	}
	return window.Table{}, api.Absent
}
