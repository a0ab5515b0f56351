package look

import (
	"slices"

	"visor/api"
	"visor/text"
	"visor/window"
)

const (
	nameRecords    = 6 // where they begin
	nameRecordSize = 12
)

// names is what the table name tells. All that is read for it are the records: no text is, ahead of its name's status being known.
type names struct {
	status int
	ahead  window.Table // all ahead of the end of the records
	list   []name
}

// name is what is told of one but for its text, and the window on this, as far as it lies in the table.
type name struct {
	api.Name
	view window.Table
}

func naming(p api.Policy, d directory) names {
	t, status := d.table("name")
	if status != api.Good {
		return names{status: status}
	}
	count, status := countRecords(t, nameRecords, nameRecordSize)
	if status != api.Good {
		return names{status: status}
	}
	out := names{status: api.Good, ahead: t.Window(0, nameRecords+nameRecordSize*count)}
	texts := t.Two(4)
	for i := range count {
		record := t.Window(nameRecords+nameRecordSize*i, nameRecordSize)
		out.list = append(out.list, nameOf(p, t, texts, record))
	}
	return out
}

// countRecords tells how many records a table has that begins with a 0 and their number, and what became of it; they are of that size each, from first on.
func countRecords(t window.Table, first, size int) (int, int) {
	if t.Size() < first {
		return 0, api.Short
	}
	if t.Two(0) != 0 {
		return 0, api.Strange
	}
	count := t.Two(2)
	if count > api.MaxRecords {
		return 0, api.Bad
	}
	if !t.Holds(first, size*count) {
		return 0, api.Short
	}
	return count, api.Good
}

func nameOf(p api.Policy, t window.Table, texts int, record window.Table) name {
	n := api.Name{Platform: record.Two(0), Encoding: record.Two(2), Language: record.Two(4), ID: record.Two(6)}
	size, begin := record.Two(8), texts+record.Two(10)
	switch {
	case slices.Contains(p.IDs, n.ID):
		n.Status = api.Withheld
	case !t.Holds(begin, size):
		n.Status = api.Outside
	}
	return name{Name: n, view: t.Window(begin, size)}
}

func (n names) told(limit int) []api.Name {
	var out []api.Name
	for _, one := range n.list {
		out = append(out, one.told(limit))
	}
	return out
}

func (n name) told(limit int) api.Name {
	if n.Status == api.Good {
		n.Text, n.Marks, n.Status = text.Tell(n.Platform, n.Encoding, n.view.Bytes(), limit)
	}
	return n.Name
}
