package look

import (
	"math"
	"reflect"
	"slices"
	"strings"
	"testing"
	"unsafe"

	"visor/api"
	"visor/report"
)

// rich has all that is looked at, some of it held back, and bytes that are nobody's.
func rich() (api.Policy, string) {
	name := nameTable("shared-held-other",
		[6]int{1, 0, 5, 1, 6, 0},
		[6]int{1, 0, 5, 2, 11, 0},
		[6]int{1, 0, 5, 3, 5, 12},
		[6]int{1, 0, 5, 2, 99, 15},
		[6]int{1, 0, 5, 4, 99, 10},
		[6]int{7, 0, 5, 5, 2, 0},
		[6]int{3, 1, 5, 5, 3, 4})
	cmap := cmapTable(part{3, 1, small([2]int{65, 90}, [2]int{65535, 65535})}, part{3, 10, great([2]int{65, 90}, [2]int{70000, 70005})})
	font := blocks(
		block{"OS/2", rightsTable(4, 4)},
		block{"aaaa", "held back"},
		block{"cmap", cmap},
		block{"head", headTable(3, 2048)},
		block{"name", name},
		block{"bbbb", "unsorted"},
		block{"name", "good again"})
	return api.Policy{Tags: []string{"aaaa"}, IDs: []int{2}, Text: 40}, font + "nobody's"
}

func TestTheDocumentsExample(t *testing.T) {
	r := inspect(t, open60, "\x00\x01\x00\x00\x00\x00\x00\x00\x00\x00\x00\x00")
	b, e := report.Encode(r)
	if want := "\x01\x00" + "\x08\x00\x00\x00\x00" + "\x08\x00\x00\x00\x00" + "\x08" + "\x00" + "\x08\x00\x00\x00\x00\x00\x00"; b != want || e != api.OK {
		t.Errorf("P5: the document's example: %x, %d", b, e)
	}
}

func TestARichFile(t *testing.T) {
	p, font := rich()
	want := api.Report{
		Kind: api.Outlines,
		Tables: []api.Table{
			{Tag: "OS/2", Size: 10},
			{Tag: "aaaa", Status: api.Withheld, Size: 9},
			{Tag: "cmap", Size: 20 + 32 + 40},
			{Tag: "head", Size: 54},
			{Tag: "name", Size: 6 + 7*12 + 17},
			{Tag: "bbbb", Status: api.Unsorted, Size: 8},
			{Tag: "name", Size: 10},
		},
		Head:   api.Head{Flags: 3, Units: 2048},
		Rights: api.Rights{Version: 4, Bits: 4},
		Names: []api.Name{
			{Platform: 1, Language: 5, ID: 1, Text: "shared"},
			{Platform: 1, Language: 5, ID: 2, Status: api.Withheld},
			{Platform: 1, Language: 5, ID: 3, Text: "other"},
			{Platform: 1, Language: 5, ID: 2, Status: api.Withheld},
			{Platform: 1, Language: 5, ID: 4, Status: api.Outside},
			{Platform: 7, Language: 5, ID: 5, Status: api.Strange},
			{Platform: 3, Encoding: 1, Language: 5, ID: 5, Status: api.Bad},
		},
		Cover: api.Cover{Form: 12, Count: 32},
	}
	if r := inspect(t, p, font); !reflect.DeepEqual(r, want) {
		t.Errorf("P5: Inspect = %#v, want %#v", r, want)
	}
}

func TestPolicies(t *testing.T) {
	long := strings.Repeat("x", api.MaxFont+1)
	_, font := rich()
	tags := func(list ...string) api.Policy { return api.Policy{Tags: list, Text: 1} }
	ids := func(list ...int) api.Policy { return api.Policy{IDs: list, Text: 1} }
	for _, p := range []api.Policy{
		{}, {Text: -1}, {Text: 61}, {Text: math.MinInt}, {Text: math.MaxInt}, {Text: 1 << 32},
		tags(""), tags("abc"), tags("abcde"), tags("abcd", "abcdefgh"), tags("abcd", ""),
		tags("\x1fabc"), tags("a\x1fbc"), tags("ab\x1fc"), tags("abc\x1f"), tags("\x7fabc"), tags("abc\x7f"), tags("abc\x00"), tags("abc\xff"), tags("é\x20\x20\x20"), tags("ab\u00e9"), tags("abcd", "abc\x80"),
		tags(slices.Repeat([]string{"abcd"}, 9)...), tags(make([]string, 1000)...),
		ids(-1), ids(65536), ids(math.MinInt), ids(math.MaxInt), ids(1 << 32), ids(1, 2, -1), ids(0, 0, 0, 0, 0, 0, 0, 65536), ids(make([]int, 9)...),
		{Tags: slices.Repeat([]string{"abcd"}, 9), IDs: make([]int, 9), Text: 1},
	} {
		for _, font := range []string{"", font, long} {
			for _, budget := range []int{math.MinInt, -1, 0, math.MaxInt} {
				r, m, e := Inspect(p, font, budget)
				if !reflect.DeepEqual(r, api.Report{}) || m != (api.Meter{}) || e != api.ErrPolicy {
					t.Errorf("P5: with the policy %#v: %#v, %v, %d", p, r, m, e)
				}
			}
			if l, e := Public(p, font); len(l) > 0 || e != api.ErrPolicy {
				t.Errorf("P6: with the policy %#v: %v, %d", p, l, e)
			}
		}
	}
	for _, p := range []api.Policy{
		{Text: 1}, {Text: 60}, tags("    "), tags("~~~~"), tags(" !}~"), tags(slices.Repeat([]string{"abcd"}, 8)...), ids(0), ids(65535), ids(make([]int, 8)...),
		{Tags: []string{}, IDs: []int{}, Text: 30},
		{Tags: slices.Repeat([]string{"head"}, 8), IDs: []int{0, 1, 2, 3, 65535, 65534, 65533, 9}, Text: 60},
	} {
		inspect(t, p, font)
		if l, e := Public(p, font); len(l) != len(font) || e != api.OK {
			t.Errorf("P6: with the policy %#v: %d", p, e)
		}
	}
}

func TestLongFiles(t *testing.T) {
	_, font := rich()
	for _, size := range []int{api.MaxFont + 1, api.MaxFont + 2, 5000, 1 << 20} {
		long := font + strings.Repeat("x", size-len(font))
		for _, budget := range []int{math.MinInt, -1, 0, 1, math.MaxInt} {
			r, m, e := Inspect(open60, long, budget)
			if !reflect.DeepEqual(r, api.Report{}) || m != (api.Meter{}) || e != api.ErrFont {
				t.Errorf("P5: a file of %d bytes: %#v, %v, %d", size, r, m, e)
			}
		}
		if l, e := Public(open60, long); len(l) > 0 || e != api.ErrFont {
			t.Errorf("P6: a file of %d bytes: %d", size, e)
		}
	}
	full := font + strings.Repeat("x", api.MaxFont-len(font))
	if r := inspect(t, open60, full); r.Kind != api.Outlines || len(r.Tables) != 7 {
		t.Errorf("P5: a file of MaxFont bytes: %#v", r)
	}
	if l, e := Public(open60, full); len(l) != api.MaxFont || e != api.OK {
		t.Errorf("P6: a file of MaxFont bytes: %d", e)
	}
	whole := rows(strings.Repeat("x", api.MaxFont-28), row{"aaaa", 0, api.MaxFont - 28})
	if r := inspect(t, open60, whole); !reflect.DeepEqual(r.Tables, []api.Table{{Tag: "aaaa", Size: api.MaxFont - 28}}) {
		t.Errorf("P5: a table of nearly MaxFont bytes: %#v", r)
	}
}

func TestBudgets(t *testing.T) {
	p, font := rich()
	for _, font := range []string{font, "", "true", outlines + two(0, 0, 0, 0), "OTTO" + two(17, 0, 0, 0), "wOFF" + two(0, 0, 0, 0), "none of them"} {
		want, all, e := Inspect(p, font, math.MaxInt)
		if e != api.OK {
			t.Fatalf("P5: Inspect(%x): %d", font, e)
		}
		budgets := []int{math.MinInt, math.MinInt + 1, -1 << 32, -1, math.MaxInt, math.MaxInt - 1, 1 << 32}
		for b := range all.Steps + 3 {
			budgets = append(budgets, b)
		}
		for _, b := range budgets {
			r, m, e := Inspect(p, font, b)
			if b >= all.Steps || all.Steps == 0 {
				if !reflect.DeepEqual(r, want) || m != all || e != api.OK {
					t.Errorf("P5: with %d of %d steps: %#v, %v, %d", b, all.Steps, r, m, e)
				}
				continue
			}
			if !reflect.DeepEqual(r, api.Report{}) || e != api.ErrBudget {
				t.Errorf("P5: with %d of %d steps: %#v, %d", b, all.Steps, r, e)
			}
			if m.Steps < 0 || m.Steps > max(b, 0) || m.Read < 0 || m.Read > 8*m.Steps {
				t.Errorf("P5: with %d of %d steps: %v", b, all.Steps, m)
			}
		}
	}
}

// A budget that is spent is told, so that the steps go up to what there was.
func TestSpentBudgetsAreTold(t *testing.T) {
	p, font := rich()
	_, all, _ := Inspect(p, font, math.MaxInt)
	for b := range all.Steps {
		if _, m, _ := Inspect(p, font, b); m.Steps != b || m.Read > all.Read {
			t.Errorf("P5: with %d of %d steps: %v", b, all.Steps, m)
		}
	}
}

// What is not reading takes steps too: 16 tables are held against each other.
func TestStepsThatReadNothing(t *testing.T) {
	var tables []row
	for i := range 16 {
		tables = append(tables, row{"aaa" + string(rune('a'+i)), i, 1})
	}
	if _, m, e := Inspect(open60, rows(strings.Repeat("x", 16), tables...), math.MaxInt); m.Steps != m.Read+16*15/2 || e != api.OK {
		t.Errorf("P5: the meter is %v", m)
	}
}

// Files that are made to take many steps: 64 for each byte and 4096 are enough (inspect asks with these).
func TestWhatIsEnough(t *testing.T) {
	list := make([][6]int, 20)
	for i := range list {
		list[i] = [6]int{0, 0, 0, i, 1700, 0}
	}
	font := blocks(block{"name", nameTable(strings.Repeat("\x00a", 850), list...)})
	if r := inspect(t, open60, font); len(r.Names) != 20 || r.Names[19].Text != strings.Repeat("a", 60) {
		t.Errorf("P5: 20 names with one text: %#v", r)
	}
	var tables []row
	for i := range 16 {
		tables = append(tables, row{"aaa" + string(rune('a'+i)), i % 2, 1})
	}
	inspect(t, open60, rows("xx", tables...))
	ranges := make([][2]int, 150)
	for i := range ranges {
		ranges[i] = [2]int{i, i}
	}
	if r := inspect(t, open60, blocks(block{"cmap", cmapTable(part{0, 0, great(ranges...)})})); r.Cover.Count != 150 {
		t.Errorf("P5: 150 ranges: %#v", r.Cover)
	}
}

// Every file of one form, cut short at every place: nothing panics, and the model agrees.
func TestCutFiles(t *testing.T) {
	p, font := rich()
	for size := range len(font) {
		r := inspect(t, p, font[:size])
		if m := modelOf(p, font[:size]); !reflect.DeepEqual(r, m.told) {
			t.Errorf("P5: of %d bytes: %#v, want %#v", size, r, m.told)
		}
	}
}

func TestAnswersAreNewMemory(t *testing.T) {
	p, font := rich()
	tags, ids := slices.Clone(p.Tags), slices.Clone(p.IDs)
	r := inspect(t, p, font)
	s := inspect(t, p, font)
	if !slices.Equal(tags, p.Tags) || !slices.Equal(ids, p.IDs) {
		t.Error("P2: the policy is changed")
	}
	begin := uintptr(unsafe.Pointer(unsafe.StringData(font)))
	within := func(s string) bool {
		at := uintptr(unsafe.Pointer(unsafe.StringData(s)))
		return s != "" && at >= begin && at < begin+uintptr(len(font))
	}
	for _, one := range r.Tables {
		if within(one.Tag) {
			t.Errorf("P2: the tag %q is a piece of the file", one.Tag)
		}
	}
	for _, one := range r.Names {
		if within(one.Text) {
			t.Errorf("P2: the text %q is a piece of the file", one.Text)
		}
	}
	for i := range r.Tables[:cap(r.Tables)] {
		r.Tables[:cap(r.Tables)][i] = api.Table{Tag: "over"}
	}
	for i := range r.Names[:cap(r.Names)] {
		r.Names[:cap(r.Names)][i] = api.Name{Text: "over"}
	}
	if again := inspect(t, p, font); !reflect.DeepEqual(s, again) {
		t.Errorf("P2: an answer was changed through another one: %#v", again)
	}
	l, _ := Public(p, font)
	k, _ := Public(p, font)
	for i := range l[:cap(l)] {
		l[:cap(l)][i] = !l[:cap(l)][i]
	}
	if again, _ := Public(p, font); !slices.Equal(k, again) {
		t.Error("P2: a list of Public was changed through another one")
	}
}
