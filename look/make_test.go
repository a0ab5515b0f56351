package look

import (
	"strings"
	"testing"

	"visor/api"
	"visor/report"
)

// What the tests make files of.

func two(numbers ...int) string {
	var out strings.Builder
	for _, n := range numbers {
		out.Write([]byte{byte(n >> 8), byte(n)})
	}
	return out.String()
}

func four(numbers ...int) string {
	var out strings.Builder
	for _, n := range numbers {
		out.WriteString(two(n>>16, n))
	}
	return out.String()
}

const outlines = "\x00\x01\x00\x00"

// row is the record of a table.
type row struct {
	tag         string
	begin, size int
}

// rows makes a file of records and what stands behind them; begin is counted from there.
func rows(rest string, list ...row) string {
	end := headerSize + recordSize*len(list)
	out := outlines + two(len(list), 1, 2, 3)
	for _, r := range list {
		out += r.tag + "sums" + four(end+r.begin, r.size)
	}
	return out + rest
}

type block struct{ tag, data string }

// blocks makes a file of tables, one behind the other.
func blocks(list ...block) string {
	var records []row
	data := ""
	for _, b := range list {
		records = append(records, row{b.tag, len(data), len(b.data)})
		data += b.data
	}
	return rows(data, records...)
}

// nameTable makes the table name of records, with the texts behind them; each record has Platform, Encoding, Language, ID, size and where it begins.
func nameTable(texts string, list ...[6]int) string {
	out := two(0, len(list), 6+12*len(list))
	for _, r := range list {
		out += two(r[:]...)
	}
	return out + texts
}

// part is one of cmap's.
type part struct {
	platform, encoding int
	data               string
}

func cmapTable(list ...part) string {
	records, data := "", ""
	for _, p := range list {
		records += two(p.platform, p.encoding) + four(4+8*len(list)+len(data))
		data += p.data
	}
	return two(0, len(list)) + records + data
}

// small is a part of form 4, of ranges' first and last characters.
func small(ranges ...[2]int) string {
	firsts, lasts := "", ""
	for _, r := range ranges {
		firsts += two(r[0])
		lasts += two(r[1])
	}
	n := len(ranges)
	return two(4, 16+8*n, 0, 2*n, 1, 2, 3) + lasts + two(9) + firsts + strings.Repeat("d", 4*n)
}

// great is a part of form 12, of ranges' first and last characters.
func great(ranges ...[2]int) string {
	out := two(12, 0) + four(16+12*len(ranges), 0, len(ranges))
	for _, r := range ranges {
		out += four(r[0], r[1], 1)
	}
	return out
}

// set puts bytes in the place of others.
func set(s string, at int, bytes string) string {
	return s[:at] + bytes + s[at+len(bytes):]
}

func headTable(flags, units int) string {
	return strings.Repeat("h", 12) + headMagic + two(flags, units) + strings.Repeat("h", 34)
}

func rightsTable(version, bits int) string {
	return two(version) + "123456" + two(bits)
}

// inspect answers the report, once all that P5 says of every answer is seen to hold.
func inspect(t *testing.T, p api.Policy, font string) api.Report {
	t.Helper()
	enough := 64*len(font) + 4096
	r, m, e := Inspect(p, font, enough)
	if e != api.OK || m.Steps < 0 || m.Steps > enough || m.Read < asked(r) || m.Read > 8*m.Steps {
		t.Errorf("P5: Inspect(%#v, %x): %d, %v", p, font, e, m)
	}
	if _, e := report.Encode(r); e != api.OK {
		t.Errorf("P5: Inspect(%#v, %x) is not right: %#v", p, font, r)
	}
	return r
}

// asked is how many bytes must be read for what is told.
func asked(r api.Report) int {
	n := 8 * len(r.Names)
	if r.Kind == api.Outlines || r.Kind == api.Curves {
		n += 6
	}
	for _, t := range r.Tables {
		if t.Status == api.Good || t.Status == api.Withheld {
			n += 8
		}
	}
	return n
}

var open60 = api.Policy{Text: api.MaxText}
