// Package report writes what is told of a file as bytes, and reads these.
package report

import "visor/api"

// Encode answers the bytes of a report (P4).
func Encode(r api.Report) (string, api.Errno) {
	if !right(r) {
		return "", api.ErrReport
	}
	var w writer
	w.report(r)
	return string(w.out), api.OK
}

// writer writes numbers that are known to fit.
type writer struct {
	out []byte
}

func (w *writer) one(n int) {
	w.out = append(w.out, byte(n))
}

func (w *writer) two(n int) {
	w.out = append(w.out, byte(n>>8), byte(n))
}

func (w *writer) four(n int) {
	w.two(n >> 16)
	w.two(n)
}

func (w *writer) bytes(s string) {
	w.out = append(w.out, s...)
}

func (w *writer) report(r api.Report) {
	w.one(r.Kind)
	w.one(len(r.Tables))
	for _, t := range r.Tables {
		w.table(t)
	}
	w.one(r.Head.Status)
	w.two(r.Head.Flags)
	w.two(r.Head.Units)
	w.one(r.Rights.Status)
	w.two(r.Rights.Version)
	w.two(r.Rights.Bits)
	w.one(r.Naming)
	w.one(len(r.Names))
	for _, n := range r.Names {
		w.name(n)
	}
	w.one(r.Cover.Status)
	w.two(r.Cover.Form)
	w.four(r.Cover.Count)
}

func (w *writer) table(t api.Table) {
	w.bytes(t.Tag)
	w.one(t.Status)
	w.two(t.Size)
}

func (w *writer) name(n api.Name) {
	w.two(n.Platform)
	w.two(n.Encoding)
	w.two(n.Language)
	w.two(n.ID)
	w.one(n.Status)
	w.one(n.Marks)
	w.one(len(n.Text))
	w.bytes(n.Text)
}
