package look

import (
	"reflect"
	"strings"
	"testing"

	"visor/api"
)

func TestNaming(t *testing.T) {
	list := func(n int) [][6]int {
		out := make([][6]int, n)
		for i := range out {
			out[i] = [6]int{1, 0, 5, i, 0, 0}
		}
		return out
	}
	all := nameTable("", list(20)...)
	for i, c := range []struct {
		data   string
		status int
		count  int
	}{
		{"", api.Short, 0},
		{two(0, 0) + "\x00", api.Short, 0},
		{two(1, 0) + "\x00", api.Short, 0},
		{two(0, 0, 0), api.Good, 0},
		{two(0, 0, 65535), api.Good, 0},
		{two(1, 0, 0), api.Strange, 0},
		{two(256, 99, 0), api.Strange, 0},
		{two(65535, 1, 0), api.Strange, 0},
		{two(0, 21, 0), api.Bad, 0},
		{two(0, 21, 0) + strings.Repeat("\x00", 21*12), api.Bad, 0},
		{two(0, 65535, 0), api.Bad, 0},
		{two(0, 256, 0), api.Bad, 0},
		{two(0, 20, 0), api.Short, 0},
		{all, api.Good, 20},
		{all[:len(all)-1], api.Short, 0},
		{nameTable("", list(1)...), api.Good, 1},
		{nameTable("", list(1)...)[:17], api.Short, 0},
		{nameTable("", list(7)...), api.Good, 7},
	} {
		// What is behind the table must not be taken for a part of it.
		font := blocks(block{"name", c.data}, block{"zzzz", strings.Repeat("\x00", 300)})
		if r := inspect(t, open60, font); r.Naming != c.status || len(r.Names) != c.count {
			t.Errorf("P5: %d: Naming %d, %d names, want %d, %d", i, r.Naming, len(r.Names), c.status, c.count)
		}
	}
}

func TestNames(t *testing.T) {
	texts := "abcdefgh" + two('A', 0x200e, 0xd83d, 0xde00)
	size := len(texts)
	held := []int{7, 0xffff, 7}
	for i, c := range []struct {
		record [6]int
		limit  int
		want   api.Name
	}{
		{[6]int{1, 0, 5, 1, 4, 0}, 60, api.Name{Platform: 1, Language: 5, ID: 1, Text: "abcd"}},
		{[6]int{1, 0, 65535, 65534, 3, 5}, 60, api.Name{Platform: 1, Language: 65535, ID: 65534, Text: "fgh"}},
		{[6]int{1, 0, 0, 0, 0, 0}, 60, api.Name{Platform: 1}},
		{[6]int{1, 0, 5, 1, 4, 0}, 4, api.Name{Platform: 1, Language: 5, ID: 1, Text: "abcd"}},
		{[6]int{1, 0, 5, 1, 4, 0}, 3, api.Name{Platform: 1, Language: 5, ID: 1, Marks: api.Cut, Text: "abc"}},
		{[6]int{1, 0, 5, 1, 4, 0}, 1, api.Name{Platform: 1, Language: 5, ID: 1, Marks: api.Cut, Text: "a"}},
		{[6]int{3, 1, 1033, 2, 8, 8}, 60, api.Name{Platform: 3, Encoding: 1, Language: 1033, ID: 2, Marks: api.Hidden, Text: "A<200e>\U0001f600"}},
		{[6]int{3, 10, 1033, 2, 6, 8}, 60, api.Name{Platform: 3, Encoding: 10, Language: 1033, ID: 2, Marks: api.Hidden | api.Broken, Text: "A<200e>\ufffd"}},
		{[6]int{0, 300, 1, 2, 4, 12}, 60, api.Name{Encoding: 300, Language: 1, ID: 2, Text: "\U0001f600"}},
		// what P3 says that is not Good: the record is told, and no text
		{[6]int{3, 1, 1033, 2, 3, 8}, 60, api.Name{Platform: 3, Encoding: 1, Language: 1033, ID: 2, Status: api.Bad}},
		{[6]int{3, 0, 1033, 2, 8, 8}, 60, api.Name{Platform: 3, Language: 1033, ID: 2, Status: api.Strange}},
		{[6]int{2, 0, 1033, 2, 8, 8}, 60, api.Name{Platform: 2, Language: 1033, ID: 2, Status: api.Strange}},
		{[6]int{256, 1, 1033, 2, 8, 8}, 60, api.Name{Platform: 256, Encoding: 1, Language: 1033, ID: 2, Status: api.Strange}},
		// Outside
		{[6]int{1, 0, 5, 1, 1, size - 1}, 60, api.Name{Platform: 1, Language: 5, ID: 1, Marks: api.Hidden, Text: "<0>"}},
		{[6]int{1, 0, 5, 1, 2, size - 1}, 60, api.Name{Platform: 1, Language: 5, ID: 1, Status: api.Outside}},
		{[6]int{1, 0, 5, 1, 0, size}, 60, api.Name{Platform: 1, Language: 5, ID: 1}},
		{[6]int{1, 0, 5, 1, 1, size}, 60, api.Name{Platform: 1, Language: 5, ID: 1, Status: api.Outside}},
		{[6]int{1, 0, 5, 1, 0, size + 1}, 60, api.Name{Platform: 1, Language: 5, ID: 1, Status: api.Outside}},
		{[6]int{1, 0, 5, 1, size + 1, 0}, 60, api.Name{Platform: 1, Language: 5, ID: 1, Status: api.Outside}},
		{[6]int{1, 0, 5, 1, 65535, 65535}, 60, api.Name{Platform: 1, Language: 5, ID: 1, Status: api.Outside}},
		{[6]int{1, 0, 5, 1, 1, 65535}, 60, api.Name{Platform: 1, Language: 5, ID: 1, Status: api.Outside}},
		{[6]int{1, 0, 5, 1, 65535, 0}, 60, api.Name{Platform: 1, Language: 5, ID: 1, Status: api.Outside}},
		{[6]int{9, 9, 5, 1, 1, 65535}, 60, api.Name{Platform: 9, Encoding: 9, Language: 5, ID: 1, Status: api.Outside}},
		// Withheld, ahead of all others
		{[6]int{1, 0, 5, 7, 4, 0}, 60, api.Name{Platform: 1, Language: 5, ID: 7, Status: api.Withheld}},
		{[6]int{1, 0, 5, 65535, 0, 0}, 60, api.Name{Platform: 1, Language: 5, ID: 65535, Status: api.Withheld}},
		{[6]int{1, 0, 5, 7, 1, 65535}, 60, api.Name{Platform: 1, Language: 5, ID: 7, Status: api.Withheld}},
		{[6]int{9, 9, 5, 7, 4, 0}, 60, api.Name{Platform: 9, Encoding: 9, Language: 5, ID: 7, Status: api.Withheld}},
		{[6]int{3, 1, 5, 7, 3, 0}, 60, api.Name{Platform: 3, Encoding: 1, Language: 5, ID: 7, Status: api.Withheld}},
		{[6]int{1, 0, 5, 6, 1, 0}, 60, api.Name{Platform: 1, Language: 5, ID: 6, Text: "a"}},
		{[6]int{1, 0, 5, 8, 1, 0}, 60, api.Name{Platform: 1, Language: 5, ID: 8, Text: "a"}},
	} {
		font := blocks(block{"aaaa", "xyz"}, block{"name", nameTable(texts, [6]int{1, 0, 0, 0, 1, 1}, c.record)}, block{"zzzz", "zzzz"})
		r := inspect(t, api.Policy{IDs: held, Text: c.limit}, font)
		first := api.Name{Platform: 1, Text: "b"}
		if want := []api.Name{first, c.want}; !reflect.DeepEqual(r.Names, want) || r.Naming != api.Good {
			t.Errorf("P5: %d: names %#v, want %#v", i, r.Names, want)
		}
	}
}

// Where the texts begin may be anywhere, over the records too.
func TestWhereTextsBegin(t *testing.T) {
	for _, c := range []struct {
		texts, begin int
		want         api.Name
	}{
		{0, 0, api.Name{Platform: 1, ID: 1, Marks: api.Hidden, Text: "<0><0>"}},
		{0, 18, api.Name{Platform: 1, ID: 1, Text: "ab"}},
		{18, 0, api.Name{Platform: 1, ID: 1, Text: "ab"}},
		{19, 0, api.Name{Platform: 1, ID: 1, Text: "bc"}},
		{20, 0, api.Name{Platform: 1, ID: 1, Status: api.Outside}},
		{21, 0, api.Name{Platform: 1, ID: 1, Status: api.Outside}},
		{65535, 65535, api.Name{Platform: 1, ID: 1, Status: api.Outside}},
		// as a sum of two bytes this would be 18 again
		{65535, 19, api.Name{Platform: 1, ID: 1, Status: api.Outside}},
	} {
		data := two(0, 1, c.texts) + two(1, 0, 0, 1, 2, c.begin) + "abc"
		if r := inspect(t, open60, blocks(block{"name", data})); !reflect.DeepEqual(r.Names, []api.Name{c.want}) {
			t.Errorf("P5: texts at %d, text at %d: %#v, want %#v", c.texts, c.begin, r.Names, c.want)
		}
	}
}
