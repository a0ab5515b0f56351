package look

import (
	"strings"
	"testing"

	"visor/api"
)

// drawn shows what is public of a file: its byte, or a dot.
func drawn(t *testing.T, p api.Policy, font string) string {
	t.Helper()
	l, e := Public(p, font)
	if len(l) != len(font) || e != api.OK {
		t.Fatalf("P6: Public(%#v, %x): %d bytes, %d", p, font, len(l), e)
	}
	out := []byte(font)
	for at, yes := range l {
		if !yes {
			out[at] = '.'
		}
	}
	return string(out)
}

func TestPublicOfKinds(t *testing.T) {
	tail := strings.Repeat("x", 40)
	for i, c := range []struct {
		font   string
		public int
	}{
		{"", 0},
		{"t", 1},
		{"true\x00\x01xxxxx", 11},
		{"true" + two(0, 0, 0, 0), 12},
		{"true" + two(0, 0, 0, 0) + tail, 12},
		{"true" + two(1, 0, 0, 0) + tail, 28},
		{"OTTO" + two(2, 0, 0, 0) + tail, 44},
		{"OTTO" + two(3, 0, 0, 0) + tail, 12},
		{outlines + two(17, 0, 0, 0) + strings.Repeat("x", 300), 12},
		{"wOFF" + two(1, 0, 0, 0) + tail, 12},
		{"ttcf" + two(1, 0, 0, 0) + tail, 12},
		{"none" + two(1, 0, 0, 0) + tail, 12},
		{"none", 4},
	} {
		want := c.font[:c.public] + strings.Repeat(".", len(c.font)-c.public)
		if got := drawn(t, open60, c.font); got != want {
			t.Errorf("P6: %d: %q, want %q", i, got, want)
		}
	}
}

func TestPublicOfTables(t *testing.T) {
	p := api.Policy{Tags: []string{"held"}, Text: 1}
	for i, c := range []struct {
		rest, want string
		rows       []row
	}{
		{"0123456789", "01.3456...", []row{{"aaaa", 0, 2}, {"bbbb", 3, 4}}},
		{"0123456789", "01.......9", []row{{"aaaa", 0, 2}, {"held", 3, 4}, {"zzzz", 9, 1}}},
		{"0123456789", "..........", []row{{"held", 0, 10}, {"zzzz", 4, 4}}},
		{"0123456789", "0123......", []row{{"bbbb", 0, 4}, {"aaaa", 4, 4}, {"cccc", 3, 3}}},
		{"0123456789", "0123456789", []row{{"bbbb", 0, 4}, {"aaaa", 4, 4}, {"cccc", 4, 6}}},
		{"0123456789", "..........", []row{{"aaaa", 5, 6}, {"bbbb", -1, 11}, {"cccc", 1 << 31, 1}}},
		{"0123456789", "..........", []row{{"aaaa", 5, 0}, {"bbbb", 10, 0}}},
		{"0123456789", "0123456789", []row{{"aaaa", 0, 10}}},
		{"0123456789", ".........9", []row{{"aaaa", 9, 1}}},
	} {
		font := rows(c.rest, c.rows...)
		records := len(font) - len(c.rest)
		if got := drawn(t, p, font); got != font[:records]+c.want {
			t.Errorf("P6: %d: %q, want %q", i, got[records:], c.want)
		}
	}
}

func TestPublicOfNames(t *testing.T) {
	p := api.Policy{Tags: []string{"held"}, IDs: []int{2, 3}, Text: 1}
	const platform, encoding, language = 1, 0, 0
	// each name: ID, size and where its text begins behind the records
	for i, c := range []struct {
		want  string
		names [][3]int
	}{
		{"0123456789", nil},
		{"0123456789", [][3]int{{1, 4, 2}}},
		{"01....6789", [][3]int{{2, 4, 2}}},
		{"01....6789", [][3]int{{2, 4, 2}, {1, 0, 3}}},
		{"01......89", [][3]int{{2, 4, 2}, {3, 4, 4}}},
		{"01....67..", [][3]int{{2, 4, 2}, {2, 2, 8}}},
		{"0123456789", [][3]int{{2, 0, 2}}},
		// a text that another name has too
		{"01..456789", [][3]int{{2, 4, 2}, {1, 4, 4}}},
		{"01..456789", [][3]int{{1, 4, 4}, {2, 4, 2}}},
		{"0123456789", [][3]int{{2, 4, 2}, {1, 4, 2}}},
		{".....5....", [][3]int{{2, 10, 0}, {1, 1, 5}, {3, 10, 0}}},
		// but not one that is Outside
		{"01....6789", [][3]int{{2, 4, 2}, {1, 99, 3}}},
		{"012.......", [][3]int{{2, 7, 3}, {1, 8, 3}}},
		{"0123456789", [][3]int{{1, 8, 3}}},
		// beyond the table's end
		{"012345678.", [][3]int{{2, 1, 9}}},
		{"012345678.", [][3]int{{2, 2, 9}}},
		{"012345678.", [][3]int{{2, 65535, 9}}},
		{"0123456789", [][3]int{{2, 0, 10}}},
		{"0123456789", [][3]int{{2, 5, 10}}},
		{"0123456789", [][3]int{{2, 5, 11}}},
		{"0123456789", [][3]int{{2, 65535, 65535}}},
		{"..........", [][3]int{{2, 65535, 0}}},
		{"....456789", [][3]int{{2, 65535, 0}, {1, 6, 4}}},
	} {
		var list [][6]int
		for _, n := range c.names {
			list = append(list, [6]int{platform, encoding, language, n[0], n[1], n[2]})
		}
		name := nameTable("0123456789", list...)
		font := blocks(block{"aaaa", "ahead"}, block{"held", "held"}, block{"name", name}, block{"zzzz", "behind"}) + "end"
		want := strings.Replace(font[:len(font)-19]+c.want+"behind...", "aheadheld", "ahead....", 1)
		if got := drawn(t, p, font); got != want {
			t.Errorf("P6: %d: %q, want %q", i, got, want)
		}
	}
}

// A name that cannot be told, being Strange or Bad, shows its text all the same.
func TestPublicOfNamesThatAreNotGood(t *testing.T) {
	p := api.Policy{IDs: []int{2}, Text: 1}
	for _, other := range [][6]int{{9, 9, 0, 1, 3, 4}, {3, 1, 0, 1, 3, 4}, {3, 2, 0, 1, 3, 4}} {
		font := blocks(block{"name", nameTable("0123456789", [6]int{1, 0, 0, 2, 8, 1}, other)})
		if got := drawn(t, p, font); got != font[:len(font)-10]+"0...456..9" {
			t.Errorf("P6: beside %v: %q", other, got[len(font)-10:])
		}
	}
}

func TestTextsOverTheRecords(t *testing.T) {
	p := api.Policy{IDs: []int{2}, Text: 1}
	for i, c := range []struct {
		texts, begin, size int
		want               string
	}{
		{0, 0, 18, "0123"},
		{0, 0, 19, ".123"},
		{0, 17, 2, ".123"},
		{0, 0, 65535, "...."},
		{5, 0, 15, "..23"},
		{18, 0, 1, ".123"},
		{19, 0, 1, "0.23"},
	} {
		name := two(0, 1, c.texts, 1, 0, 0, 2, c.size, c.begin) + "0123"
		font := blocks(block{"name", name})
		if got := drawn(t, p, font); got != font[:len(font)-4]+c.want {
			t.Errorf("P6: %d: %q, want the end %q", i, got, c.want)
		}
	}
}

// Where Naming is not Good, nothing of the table is held back but with all of it.
func TestPublicWithoutNaming(t *testing.T) {
	p := api.Policy{IDs: []int{2}, Text: 1}
	good := nameTable("01234567", [6]int{1, 0, 0, 2, 4, 0})
	held := api.Policy{Tags: []string{"name"}, IDs: []int{2}, Text: 1}
	for i, c := range []struct {
		p          api.Policy
		name, want string
	}{
		{p, good, good[:18] + "....4567"},
		{p, set(good, 0, two(1)), set(good, 0, two(1))},
		{p, set(good, 2, two(21)), set(good, 2, two(21))},
		{p, good[:17], good[:17]},
		{p, good[:5], good[:5]},
		{held, good, strings.Repeat(".", len(good))},
	} {
		font := blocks(block{"name", c.name})
		if got := drawn(t, c.p, font); got != font[:28]+c.want {
			t.Errorf("P6: %d: %q, want %q", i, got[28:], c.want)
		}
	}
}

// The second table `name` has no names: it is Good, and all of it is public.
func TestPublicOfASecondName(t *testing.T) {
	p := api.Policy{IDs: []int{2}, Text: 1}
	name := nameTable("01234567", [6]int{1, 0, 0, 2, 4, 0})
	font := blocks(block{"name", name}, block{"aaaa", "unsorted"}, block{"name", name})
	want := font[:60] + name[:18] + "....4567" + "........" + name
	if got := drawn(t, p, font); got != want {
		t.Errorf("P6: %q, want %q", got, want)
	}
	font = blocks(block{"zzzz", ""}, block{"name", name}, block{"aaaa", "unsorted"}, block{"name", name})
	if got := drawn(t, p, font); got != font[:76]+strings.Repeat(".", len(name))+"........"+name {
		t.Errorf("P6: %q", got)
	}
}

// Each byte that is not public is given other values, by itself and together: P8 holds with every budget.
func TestHiddenBytesTellNothing(t *testing.T) {
	p, font := rich()
	public, _ := Public(p, font)
	all := []byte(font)
	hidden := 0
	for at, yes := range public {
		if yes {
			continue
		}
		hidden++
		for _, value := range []byte{0, 0xd8, 0xff} {
			sameAnswers(t, p, font, set(font, at, string([]byte{value})))
		}
		all[at] ^= 0x80
	}
	sameAnswers(t, p, font, string(all))
	// the table that is held back, the one that is unsorted, what is nobody's, and of the texts "held" alone: other names show the rest
	if hidden != 9+8+8+4 {
		t.Errorf("P6: %d bytes are not public", hidden)
	}
}
