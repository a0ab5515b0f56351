package look

import (
	"reflect"
	"slices"
	"strings"
	"testing"

	"visor/api"
)

// nothing is told of a file without tables.
func nothing(kind int) api.Report {
	return api.Report{Kind: kind, Head: api.Head{Status: api.Absent}, Rights: api.Rights{Status: api.Absent}, Naming: api.Absent, Cover: api.Cover{Status: api.Absent}}
}

func TestKinds(t *testing.T) {
	all := []struct {
		opening string
		kind    int
	}{{outlines, api.Outlines}, {"true", api.Outlines}, {"OTTO", api.Curves}, {"ttcf", api.Packed}, {"wOFF", api.Packed}, {"wOF2", api.Packed}}
	check := func(font string, kind int) {
		t.Helper()
		if r := inspect(t, open60, font); !reflect.DeepEqual(r, nothing(kind)) {
			t.Errorf("P5: Inspect(%x) = %#v, want the kind %d", font, r, kind)
		}
	}
	for _, c := range all {
		font := c.opening + two(0, 1, 2, 3)
		check(font, c.kind)
		check(font+"behind it", c.kind)
		for size := range 12 {
			check(font[:size], api.None)
		}
		for i := range 4 {
			for _, change := range []byte{1, 2, 4, 8, 16, 32, 64, 128} {
				b := []byte(font)
				b[i] ^= change
				if !slices.ContainsFunc(all, func(d struct {
					opening string
					kind    int
				}) bool {
					return d.opening == string(b[:4])
				}) {
					check(string(b), api.None)
				}
			}
		}
	}
	for _, font := range []string{"wOFF" + two(65535, 0, 0, 0), "ttcf" + two(17, 0, 0, 0), "wOF2" + two(1, 0, 0, 0)} {
		check(font, api.Packed)
	}
}

func TestRecordsThatAreNotAllThere(t *testing.T) {
	for _, opening := range []string{outlines, "true", "OTTO"} {
		for _, n := range []int{1, 2, 15, 16} {
			font := opening + two(n, 0, 0, 0) + strings.Repeat("\xff", 16*n)
			if r := inspect(t, open60, font); len(r.Tables) != n || r.Kind == api.None {
				t.Errorf("P5: with %d records: %#v", n, r)
			}
			for _, cut := range []int{1, 15, 16} {
				if r := inspect(t, open60, font[:len(font)-cut]); !reflect.DeepEqual(r, nothing(api.None)) {
					t.Errorf("P5: with %d records, %d bytes too few: %#v", n, cut, r)
				}
			}
		}
		for _, n := range []int{17, 18, 124, 256, 272, 65535} {
			font := opening + two(n, 0, 0, 0) + strings.Repeat("\xff", 1988)
			if r := inspect(t, open60, font); !reflect.DeepEqual(r, nothing(api.None)) {
				t.Errorf("P5: with %d records: %#v", n, r)
			}
		}
	}
}

func TestTables(t *testing.T) {
	const far = 1<<32 - 1
	for i, c := range []struct {
		rest string
		rows []row
		want []api.Table
	}{
		// in order, with places and sizes
		{"12345", []row{{"aaaa", 0, 2}, {"bbbb", 2, 3}}, []api.Table{{Tag: "aaaa", Size: 2}, {Tag: "bbbb", Size: 3}}},
		{"12345", []row{{"aaaa", 3, 2}, {"bbbb", 0, 3}}, []api.Table{{Tag: "aaaa", Size: 2}, {Tag: "bbbb", Size: 3}}},
		// Unsorted
		{"12", []row{{"\x00\x00\x00\x00", 0, 1}, {"\x00\x00\x00\x01", 1, 1}}, []api.Table{{Tag: "\x00\x00\x00\x00", Size: 1}, {Tag: "\x00\x00\x00\x01", Size: 1}}},
		{"12", []row{{"aaaa", 0, 1}, {"aaaa", 1, 1}}, []api.Table{{Tag: "aaaa", Size: 1}, {Tag: "aaaa", Status: api.Unsorted, Size: 1}}},
		{"12", []row{{"aaab", 0, 1}, {"aaaa", 1, 1}}, []api.Table{{Tag: "aaab", Size: 1}, {Tag: "aaaa", Status: api.Unsorted, Size: 1}}},
		{"12", []row{{"abaa", 0, 1}, {"aazz", 1, 1}}, []api.Table{{Tag: "abaa", Size: 1}, {Tag: "aazz", Status: api.Unsorted, Size: 1}}},
		{"12", []row{{"azzz", 0, 1}, {"baaa", 1, 1}}, []api.Table{{Tag: "azzz", Size: 1}, {Tag: "baaa", Size: 1}}},
		{"12", []row{{"a\x7f\x00\x00", 0, 1}, {"a\x80\x00\x00", 1, 1}}, []api.Table{{Tag: "a\x7f\x00\x00", Size: 1}, {Tag: "a\x80\x00\x00", Size: 1}}},
		{"12", []row{{"\xff\xff\xff\xff", 0, 1}, {"zzzz", 1, 1}}, []api.Table{{Tag: "\xff\xff\xff\xff", Size: 1}, {Tag: "zzzz", Status: api.Unsorted, Size: 1}}},
		// it is held against the one ahead of it, whatever that one's status
		{"123", []row{{"bbbb", 0, 1}, {"aaaa", 1, 1}, {"abbb", 2, 1}}, []api.Table{{Tag: "bbbb", Size: 1}, {Tag: "aaaa", Status: api.Unsorted, Size: 1}, {Tag: "abbb", Size: 1}}},
		{"123", []row{{"bbbb", 9, 1}, {"aaaa", 1, 1}}, []api.Table{{Tag: "bbbb", Status: api.Outside}, {Tag: "aaaa", Status: api.Unsorted, Size: 1}}},
		// Unsorted goes ahead of all others, but a size that is not there is not told
		{"12", []row{{"bbbb", 0, 2}, {"aaaa", 0, 3}}, []api.Table{{Tag: "bbbb", Size: 2}, {Tag: "aaaa", Status: api.Unsorted}}},
		{"12", []row{{"bbbb", 0, 2}, {"aaaa", -1, 2}}, []api.Table{{Tag: "bbbb", Size: 2}, {Tag: "aaaa", Status: api.Unsorted}}},
		{"12", []row{{"bbbb", 0, 2}, {"aaaa", 1, 1}}, []api.Table{{Tag: "bbbb", Size: 2}, {Tag: "aaaa", Status: api.Unsorted, Size: 1}}},
		{"12", []row{{"held", 0, 1}, {"held", 1, 1}}, []api.Table{{Tag: "held", Status: api.Withheld, Size: 1}, {Tag: "held", Status: api.Unsorted, Size: 1}}},
		// Outside
		{"12", []row{{"aaaa", 0, 3}}, []api.Table{{Tag: "aaaa", Status: api.Outside}}},
		{"12", []row{{"aaaa", 1, 1}}, []api.Table{{Tag: "aaaa", Size: 1}}},
		{"12", []row{{"aaaa", 1, 2}}, []api.Table{{Tag: "aaaa", Status: api.Outside}}},
		{"12", []row{{"aaaa", 2, 0}}, []api.Table{{Tag: "aaaa"}}},
		{"12", []row{{"aaaa", 2, 1}}, []api.Table{{Tag: "aaaa", Status: api.Outside}}},
		{"12", []row{{"aaaa", 3, 0}}, []api.Table{{Tag: "aaaa", Status: api.Outside}}},
		{"", []row{{"aaaa", 0, 0}}, []api.Table{{Tag: "aaaa"}}},
		{"12", []row{{"aaaa", -1, 2}}, []api.Table{{Tag: "aaaa", Status: api.Outside}}},
		{"12", []row{{"aaaa", -1, 0}}, []api.Table{{Tag: "aaaa", Status: api.Outside}}},
		{"12", []row{{"aaaa", -28, 2}}, []api.Table{{Tag: "aaaa", Status: api.Outside}}},
		{"12", []row{{"held", 0, 3}}, []api.Table{{Tag: "held", Status: api.Outside}}},
		// numbers near the greatest
		{"12", []row{{"aaaa", 0, far}}, []api.Table{{Tag: "aaaa", Status: api.Outside}}},
		{"12", []row{{"aaaa", 1, far}}, []api.Table{{Tag: "aaaa", Status: api.Outside}}},
		{"12", []row{{"aaaa", 2, far - 1}}, []api.Table{{Tag: "aaaa", Status: api.Outside}}},
		{"12", []row{{"aaaa", far - 28, 0}}, []api.Table{{Tag: "aaaa", Status: api.Outside}}},
		{"12", []row{{"aaaa", far - 28, 1}}, []api.Table{{Tag: "aaaa", Status: api.Outside}}},
		{"12", []row{{"aaaa", far - 28, 2}}, []api.Table{{Tag: "aaaa", Status: api.Outside}}},
		{"12", []row{{"aaaa", far - 28, 30}}, []api.Table{{Tag: "aaaa", Status: api.Outside}}},
		{"12", []row{{"aaaa", far - 28, far}}, []api.Table{{Tag: "aaaa", Status: api.Outside}}},
		{"12", []row{{"aaaa", 1 << 31, 1 << 31}}, []api.Table{{Tag: "aaaa", Status: api.Outside}}},
		{"12", []row{{"aaaa", 1 << 16, 0}}, []api.Table{{Tag: "aaaa", Status: api.Outside}}},
		{"12", []row{{"aaaa", 0, 1 << 16}}, []api.Table{{Tag: "aaaa", Status: api.Outside}}},
		// Shared
		{"12345", []row{{"aaaa", 0, 3}, {"bbbb", 2, 3}}, []api.Table{{Tag: "aaaa", Size: 3}, {Tag: "bbbb", Status: api.Shared, Size: 3}}},
		{"12345", []row{{"aaaa", 2, 3}, {"bbbb", 0, 3}}, []api.Table{{Tag: "aaaa", Size: 3}, {Tag: "bbbb", Status: api.Shared, Size: 3}}},
		{"12345", []row{{"aaaa", 0, 5}, {"bbbb", 2, 1}}, []api.Table{{Tag: "aaaa", Size: 5}, {Tag: "bbbb", Status: api.Shared, Size: 1}}},
		{"12345", []row{{"aaaa", 2, 1}, {"bbbb", 0, 5}}, []api.Table{{Tag: "aaaa", Size: 1}, {Tag: "bbbb", Status: api.Shared, Size: 5}}},
		{"12345", []row{{"aaaa", 0, 5}, {"bbbb", 2, 0}}, []api.Table{{Tag: "aaaa", Size: 5}, {Tag: "bbbb"}}},
		{"12345", []row{{"aaaa", 2, 0}, {"bbbb", 0, 5}}, []api.Table{{Tag: "aaaa"}, {Tag: "bbbb", Size: 5}}},
		{"12345", []row{{"aaaa", 0, 2}, {"bbbb", 4, 1}, {"cccc", 1, 2}}, []api.Table{{Tag: "aaaa", Size: 2}, {Tag: "bbbb", Size: 1}, {Tag: "cccc", Status: api.Shared, Size: 2}}},
		{"12345", []row{{"aaaa", 0, 2}, {"bbbb", 4, 1}, {"cccc", 3, 2}}, []api.Table{{Tag: "aaaa", Size: 2}, {Tag: "bbbb", Size: 1}, {Tag: "cccc", Status: api.Shared, Size: 2}}},
		// with one that is Withheld, but not with one that is Shared, Unsorted or Outside
		{"12345", []row{{"held", 0, 3}, {"zzzz", 2, 3}}, []api.Table{{Tag: "held", Status: api.Withheld, Size: 3}, {Tag: "zzzz", Status: api.Shared, Size: 3}}},
		{"12345", []row{{"aaaa", 0, 3}, {"held", 2, 3}}, []api.Table{{Tag: "aaaa", Size: 3}, {Tag: "held", Status: api.Shared, Size: 3}}},
		{"12345", []row{{"aaaa", 0, 3}, {"bbbb", 2, 2}, {"cccc", 3, 2}}, []api.Table{{Tag: "aaaa", Size: 3}, {Tag: "bbbb", Status: api.Shared, Size: 2}, {Tag: "cccc", Size: 2}}},
		{"12345", []row{{"bbbb", 0, 3}, {"aaaa", 3, 2}, {"cccc", 3, 2}}, []api.Table{{Tag: "bbbb", Size: 3}, {Tag: "aaaa", Status: api.Unsorted, Size: 2}, {Tag: "cccc", Size: 2}}},
		{"12345", []row{{"aaaa", 3, 3}, {"bbbb", 3, 2}}, []api.Table{{Tag: "aaaa", Status: api.Outside}, {Tag: "bbbb", Size: 2}}},
		// Withheld
		{"12345", []row{{"aaaa", 0, 1}, {"held", 1, 4}, {"hide", 0, 0}}, []api.Table{{Tag: "aaaa", Size: 1}, {Tag: "held", Status: api.Withheld, Size: 4}, {Tag: "hide", Status: api.Withheld}}},
		{"12345", []row{{"aaaa", 0, 1}, {"gone", 1, 1}, {"heXd", 2, 2}, {"helda"[1:], 4, 1}}, []api.Table{{Tag: "aaaa", Size: 1}, {Tag: "gone", Size: 1}, {Tag: "heXd", Size: 2}, {Tag: "elda", Status: api.Unsorted, Size: 1}}},
	} {
		font := rows(c.rest, c.rows...)
		p := api.Policy{Tags: []string{"held", "none", "hide", "held"}, Text: 1}
		if r := inspect(t, p, font); !reflect.DeepEqual(r.Tables, c.want) || r.Kind != api.Outlines {
			t.Errorf("P5: %d: tables %#v, want %#v", i, r.Tables, c.want)
		}
	}
}

func TestTheTableOfATag(t *testing.T) {
	good, other := headTable(1, 1000), headTable(2, 2000)
	for i, c := range []struct {
		font string
		want api.Head
	}{
		{blocks(block{"head", good}), api.Head{Flags: 1, Units: 1000}},
		{blocks(block{"hea\x00", good}), api.Head{Status: api.Absent}},
		{blocks(block{"Head", good}), api.Head{Status: api.Absent}},
		// the first one, though the second one is Good too
		{blocks(block{"head", good}, block{"aaaa", ""}, block{"head", other}), api.Head{Flags: 1, Units: 1000}},
		{blocks(block{"zzzz", ""}, block{"head", good}, block{"aaaa", ""}, block{"head", other}), api.Head{Status: api.Unsorted}},
		{rows(good, row{"head", 1, 54}, row{"aaaa", 0, 0}, row{"head", 0, 54}), api.Head{Status: api.Outside}},
		{rows(good, row{"aaaa", 9, 1}, row{"head", 0, 54}), api.Head{Status: api.Shared}},
	} {
		if r := inspect(t, open60, c.font); r.Head != c.want {
			t.Errorf("P5: %d: Head %#v, want %#v", i, r.Head, c.want)
		}
	}
}

// Each table that is not Good: its status is told, and nothing of what is in it.
func TestTablesThatAreNotGoodTellTheirStatus(t *testing.T) {
	tables := map[string]string{
		"head": headTable(1, 1000),
		"OS/2": rightsTable(1, 2),
		"name": nameTable("ab", [6]int{1, 0, 5, 1, 2, 0}),
		"cmap": cmapTable(part{3, 1, small([2]int{65, 65535})}),
	}
	for tag, data := range tables {
		size := len(data)
		held := api.Policy{Tags: []string{tag}, Text: 60}
		for i, c := range []struct {
			p    api.Policy
			font string
			want int
		}{
			{open60, blocks(block{tag, data}), api.Good},
			{open60, blocks(block{"zzzz", ""}, block{tag, data}), api.Unsorted},
			{open60, rows(data, row{tag, 1, size}), api.Outside},
			{open60, rows(data, row{tag, -1, size}), api.Outside},
			{open60, rows(data, row{"    ", 0, 1}, row{tag, 0, size}), api.Shared},
			{held, blocks(block{tag, data}), api.Withheld},
			{open60, blocks(block{"    ", data}), api.Absent},
		} {
			r := inspect(t, c.p, c.font)
			got := map[string]int{"head": r.Head.Status, "OS/2": r.Rights.Status, "name": r.Naming, "cmap": r.Cover.Status}
			for other, status := range got {
				if other == tag && status != c.want || other != tag && status != api.Absent {
					t.Errorf("P5: %s, %d: the status of %s is %d, want %d", tag, i, other, status, c.want)
				}
			}
			if c.want == api.Good {
				continue
			}
			if r.Head != (api.Head{Status: r.Head.Status}) || r.Rights != (api.Rights{Status: r.Rights.Status}) || len(r.Names) > 0 || r.Cover != (api.Cover{Status: r.Cover.Status}) {
				t.Errorf("P5: %s, %d: more is told: %#v", tag, i, r)
			}
		}
	}
}
