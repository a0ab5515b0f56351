package look

import (
	"math/rand"
	"reflect"
	"slices"
	"strings"
	"testing"

	"visor/api"
	"visor/report"
	"visor/text"
)

// A second reading of the document, which knows neither windows nor meters, held against the program on many files.

type model struct {
	policy api.Policy
	font   string
	told   api.Report
	place  []int // where each table begins
	texts  []span
	begin  int // of the table name
	shown  string
}

type span struct{ from, to int }

func number(s string, at, size int) int {
	n := 0
	for i := range size {
		n = n*256 + int(s[at+i])
	}
	return n
}

func modelOf(p api.Policy, font string) *model {
	m := &model{policy: p, font: font, told: nothing(api.None)}
	if len(font) < 12 {
		return m
	}
	switch font[:4] {
	case "\x00\x01\x00\x00", "true":
		m.told.Kind = api.Outlines
	case "OTTO":
		m.told.Kind = api.Curves
	case "ttcf", "wOFF", "wOF2":
		m.told.Kind = api.Packed
		return m
	default:
		return m
	}
	n := number(font, 4, 2)
	if n > 16 || 12+16*n > len(font) {
		m.told.Kind = api.None
		return m
	}
	m.tables(n)
	m.told.Head = m.head()
	m.told.Rights = m.rights()
	m.names()
	m.told.Cover = m.cover()
	return m
}

func (m *model) tables(n int) {
	owner := make([]bool, len(m.font)+1)
	ahead := ""
	for i := range n {
		record := m.font[12+16*i : 28+16*i]
		tag, begin, size := record[:4], number(record, 8, 4), number(record, 12, 4)
		t := api.Table{Tag: tag, Size: size}
		out := begin < 12+16*n || begin+size > len(m.font)
		if out {
			t.Size = 0
		}
		taken := false
		for k := begin; !out && k < begin+size; k++ {
			taken = taken || owner[k]
		}
		switch {
		case i > 0 && strings.Compare(tag, ahead) <= 0:
			t.Status = api.Unsorted
		case out:
			t.Status = api.Outside
		case taken:
			t.Status = api.Shared
		case slices.Contains(m.policy.Tags, tag):
			t.Status = api.Withheld
		}
		for k := begin; (t.Status == api.Good || t.Status == api.Withheld) && k < begin+size; k++ {
			owner[k] = true
		}
		ahead = tag
		m.told.Tables = append(m.told.Tables, t)
		m.place = append(m.place, begin)
	}
}

func (m *model) find(tag string) (string, int, int) {
	for i, t := range m.told.Tables {
		if t.Tag == tag && t.Status == api.Good {
			return m.font[m.place[i] : m.place[i]+t.Size], m.place[i], api.Good
		}
		if t.Tag == tag {
			return "", 0, t.Status
		}
	}
	return "", 0, api.Absent
}

func (m *model) head() api.Head {
	s, _, k := m.find("head")
	switch {
	case k != api.Good:
		return api.Head{Status: k}
	case len(s) < 54:
		return api.Head{Status: api.Short}
	case s[12:16] != "\x5f\x0f\x3c\xf5", number(s, 18, 2) < 16, number(s, 18, 2) > 16384:
		return api.Head{Status: api.Bad}
	}
	return api.Head{Flags: number(s, 16, 2), Units: number(s, 18, 2)}
}

func (m *model) rights() api.Rights {
	s, _, k := m.find("OS/2")
	if k != api.Good {
		return api.Rights{Status: k}
	}
	if len(s) < 10 {
		return api.Rights{Status: api.Short}
	}
	version, bits := number(s, 0, 2), number(s, 8, 2)
	if version > 5 {
		return api.Rights{Status: api.Strange}
	}
	rest := bits - bits&256 - bits&512
	if version < 3 && !slices.Contains([]int{0, 2, 4, 6, 8, 10, 12, 14}, rest) || version >= 3 && !slices.Contains([]int{0, 2, 4, 8}, rest) {
		return api.Rights{Status: api.Bad}
	}
	return api.Rights{Version: version, Bits: bits}
}

func listStatus(s string, first, size int) int {
	switch {
	case len(s) < first:
		return api.Short
	case number(s, 0, 2) > 0:
		return api.Strange
	case number(s, 2, 2) > 20:
		return api.Bad
	case len(s) < first+size*number(s, 2, 2):
		return api.Short
	}
	return api.Good
}

func (m *model) names() {
	s, begin, k := m.find("name")
	if k == api.Good {
		k = listStatus(s, 6, 12)
	}
	m.told.Naming, m.begin = k, begin
	if k != api.Good {
		return
	}
	m.shown = s
	for i := range number(s, 2, 2) {
		at := 6 + 12*i
		n := api.Name{Platform: number(s, at, 2), Encoding: number(s, at+2, 2), Language: number(s, at+4, 2), ID: number(s, at+6, 2)}
		from := number(s, 4, 2) + number(s, at+10, 2)
		to := from + number(s, at+8, 2)
		if slices.Contains(m.policy.IDs, n.ID) {
			n.Status = api.Withheld
		} else if to > len(s) {
			n.Status = api.Outside
		} else {
			n.Text, n.Marks, n.Status = text.Tell(n.Platform, n.Encoding, s[from:to], m.policy.Text)
		}
		m.told.Names = append(m.told.Names, n)
		m.texts = append(m.texts, span{from, to})
	}
}

func (m *model) cover() api.Cover {
	s, _, k := m.find("cmap")
	if k == api.Good {
		k = listStatus(s, 4, 8)
	}
	if k != api.Good {
		return api.Cover{Status: k}
	}
	var best, other, plain []int
	for i := range number(s, 2, 2) {
		at := number(s, 8+8*i, 4)
		switch platform, encoding := number(s, 4+8*i, 2), number(s, 6+8*i, 2); {
		case platform == 3 && encoding == 10:
			best = append(best, at)
		case platform == 0:
			other = append(other, at)
		case platform == 3 && encoding == 1:
			plain = append(plain, at)
		}
	}
	all := slices.Concat(best, other, plain)
	if len(all) == 0 {
		return api.Cover{Status: api.Strange}
	}
	if all[0]+2 > len(s) {
		return api.Cover{Status: api.Short}
	}
	s = s[all[0]:]
	form := number(s, 0, 2)
	var ranges [][2]int
	switch form {
	case 4:
		ranges, k = smallRanges(s)
	case 12:
		ranges, k = greatRanges(s)
	default:
		k = api.Strange
	}
	if k != api.Good {
		return api.Cover{Status: k}
	}
	count := 0
	for i, r := range ranges {
		if r[0] > r[1] || i > 0 && r[0] <= ranges[i-1][1] || r[1] > 1114111 {
			return api.Cover{Status: api.Bad}
		}
		count += r[1] - r[0] + 1
	}
	if form == 4 {
		if ranges[len(ranges)-1][1] != 65535 {
			return api.Cover{Status: api.Bad}
		}
		count--
	}
	return api.Cover{Form: form, Count: count}
}

func smallRanges(s string) (out [][2]int, status int) {
	if len(s) < 4 || number(s, 2, 2) > len(s) || number(s, 2, 2) < 16 {
		return nil, api.Short
	}
	twice := number(s, 6, 2)
	if twice == 0 || twice%2 == 1 {
		return nil, api.Bad
	}
	if number(s, 2, 2) < 16+4*twice {
		return nil, api.Short
	}
	for i := range twice / 2 {
		out = append(out, [2]int{number(s, 14+twice+2+2*i, 2), number(s, 14+2*i, 2)})
	}
	return out, api.Good
}

func greatRanges(s string) (out [][2]int, status int) {
	if len(s) < 8 || number(s, 4, 4) > len(s) || number(s, 4, 4) < 16 || number(s, 4, 4) < 16+12*number(s, 12, 4) {
		return nil, api.Short
	}
	for i := range number(s, 12, 4) {
		out = append(out, [2]int{number(s, 16+12*i, 4), number(s, 20+12*i, 4)})
	}
	return out, api.Good
}

// public asks of each byte by itself.
func (m *model) public() []bool {
	out := make([]bool, len(m.font))
	for at := range out {
		out[at] = at < 12 || m.told.Kind%3 != 0 && at < 12+16*len(m.told.Tables) || m.inGood(at) && !m.hidden(at-m.begin)
	}
	return out
}

func (m *model) inGood(at int) bool {
	for i, t := range m.told.Tables {
		if t.Status == api.Good && m.place[i] <= at && at < m.place[i]+t.Size {
			return true
		}
	}
	return false
}

func (m *model) hidden(at int) bool {
	if m.told.Naming != api.Good || at < 6+12*len(m.told.Names) || at >= len(m.shown) {
		return false
	}
	held := false
	for i, n := range m.told.Names {
		if m.texts[i].from <= at && at < m.texts[i].to {
			if n.Status != api.Withheld && n.Status != api.Outside {
				return false
			}
			held = held || n.Status == api.Withheld
		}
	}
	return held
}

// maker makes files that are nearly fonts.
type maker struct{ *rand.Rand }

func (g maker) oneOf(list ...int) int { return list[g.Intn(len(list))] }

// near is a number that is mostly n.
func (g maker) near(n int) int {
	switch g.Intn(12) {
	case 0:
		return n + 1
	case 1:
		return max(n-1, 0)
	case 2:
		return g.oneOf(0, 1, n+g.Intn(9), 65535, g.Intn(65536))
	}
	return n
}

func (g maker) policy() api.Policy {
	p := api.Policy{Text: g.oneOf(1, 2, 5, 9, 60)}
	for range g.Intn(3) {
		p.Tags = append(p.Tags, []string{"head", "OS/2", "name", "cmap", "aaaa", "post"}[g.Intn(6)])
	}
	for range g.Intn(4) {
		p.IDs = append(p.IDs, g.Intn(6))
	}
	return p
}

func (g maker) name() string {
	n := g.Intn(8)
	bytes := make([]byte, g.Intn(40))
	for i := range bytes {
		bytes[i] = byte(g.oneOf(0, 0, 'a', 'z', '<', 0x20, 0x2e, 0xd8, 0xdc, g.Intn(256)))
	}
	out := two(g.oneOf(0, 0, 0, 0, 0, 0, 0, 1), g.near(n), g.near(6+12*n))
	for range n {
		size := g.Intn(len(bytes) + 2)
		begin := g.Intn(max(len(bytes)-size, 0) + 2)
		out += two(g.oneOf(0, 1, 3, 3, 3, 2), g.oneOf(0, 1, 1, 10), g.Intn(9), g.Intn(6), g.near(size), g.near(begin))
	}
	return out + string(bytes)
}

func (g maker) ranges(most int) [][2]int {
	var out [][2]int
	end := -1
	for range g.Intn(5) {
		first := g.near(end + 1 + g.Intn(200))
		end = g.near(first + g.Intn(100))
		out = append(out, [2]int{first, end})
	}
	if g.Intn(4) > 0 {
		out = append(out, [2]int{most - g.Intn(2), most})
	}
	return out
}

func (g maker) part() string {
	switch g.Intn(8) {
	case 0:
		return two(g.oneOf(0, 2, 6, 4, 12))
	case 1, 2, 3:
		s := small(g.ranges(65535)...)
		s = set(s, 2, two(g.near(len(s))))
		return set(s, 6, two(g.near(number(s, 6, 2))))
	}
	s := great(g.ranges(1114111)...)
	s = set(s, 4, four(g.near(len(s))))
	return set(s, 12, four(g.near(number(s, 12, 4))))
}

func (g maker) cmap() string {
	var list []part
	for range g.oneOf(0, 1, 1, 1, 2, 3) {
		list = append(list, part{g.oneOf(0, 1, 3, 3), g.oneOf(0, 1, 10), g.part()})
	}
	s := cmapTable(list...)
	if g.Intn(10) == 0 {
		s = set(s, g.oneOf(0, 2), two(g.oneOf(1, 20, 21, len(list)+1)))
	}
	return s
}

func (g maker) table(tag string) string {
	s := strings.Repeat("x", g.Intn(20))
	switch tag {
	case "head":
		s = headTable(g.Intn(65536), g.near(g.oneOf(16, 1000, 16384)))
	case "OS/2":
		s = rightsTable(g.Intn(8), g.oneOf(0, 2, 4, 8, 6, 12, 14, 256, 512, 768, 1, 16, 772))
	case "name":
		s = g.name()
	case "cmap":
		s = g.cmap()
	}
	if g.Intn(10) == 0 {
		s = s[:g.Intn(len(s)+1)]
	}
	return s
}

func (g maker) font() string {
	tags := []string{"FFTM", "OS/2", "aaaa", "cmap", "head", "name", "post"}
	tags = slices.DeleteFunc(tags, func(string) bool { return g.Intn(4) == 0 })
	if g.Intn(5) == 0 {
		tags = append(tags, []string{"aaaa", "name", "head", "zzzz"}[g.Intn(4)])
	}
	if g.Intn(8) == 0 {
		g.Shuffle(len(tags), func(i, k int) { tags[i], tags[k] = tags[k], tags[i] })
	}
	var list []row
	data := ""
	for _, tag := range tags {
		s := g.table(tag)
		list = append(list, row{tag, g.near(len(data)), len(s)})
		if g.Intn(15) == 0 {
			list[len(list)-1].size = g.near(len(s))
		}
		data += s + strings.Repeat("g", g.oneOf(0, 0, 0, 1, 3))
	}
	b := []byte(rows(data, list...))
	copy(b, []string{outlines, outlines, outlines, "true", "OTTO"}[g.Intn(5)])
	for range g.oneOf(0, 0, 0, 0, 1, 2) {
		b[g.Intn(len(b))] = byte(g.Intn(256))
	}
	return string(b[:min(len(b), api.MaxFont)])
}

func TestManyFiles(t *testing.T) {
	g := maker{rand.New(rand.NewSource(8))}
	seen := map[string]map[int]int{"table": {}, "head": {}, "OS/2": {}, "name": {}, "names": {}, "cmap": {}}
	for range 60000 {
		p, font := g.policy(), g.font()
		m := modelOf(p, font)
		r := inspect(t, p, font)
		if !reflect.DeepEqual(r, m.told) {
			t.Fatalf("P5: Inspect(%#v, %x) = %#v, want %#v", p, font, r, m.told)
		}
		public, e := Public(p, font)
		if want := m.public(); !slices.Equal(public, want) || e != api.OK {
			t.Fatalf("P6: Public(%#v, %x) = %v, %d, want %v", p, font, public, e, want)
		}
		for _, one := range r.Tables {
			seen["table"][one.Status]++
		}
		for _, one := range r.Names {
			seen["names"][one.Status]++
		}
		seen["head"][r.Head.Status]++
		seen["OS/2"][r.Rights.Status]++
		seen["name"][r.Naming]++
		seen["cmap"][r.Cover.Status]++
	}
	for what, list := range map[string][]int{
		"table": {api.Good, api.Unsorted, api.Outside, api.Shared, api.Withheld},
		"head":  {api.Good, api.Unsorted, api.Outside, api.Shared, api.Withheld, api.Short, api.Bad, api.Absent},
		"OS/2":  {api.Good, api.Unsorted, api.Outside, api.Shared, api.Withheld, api.Short, api.Bad, api.Strange, api.Absent},
		"name":  {api.Good, api.Unsorted, api.Outside, api.Shared, api.Withheld, api.Short, api.Bad, api.Strange, api.Absent},
		"cmap":  {api.Good, api.Unsorted, api.Outside, api.Shared, api.Withheld, api.Short, api.Bad, api.Strange, api.Absent},
		"names": {api.Good, api.Outside, api.Withheld, api.Bad, api.Strange},
	} {
		for _, status := range list {
			if seen[what][status] < 30 {
				t.Errorf("the files show the status %d of %s only %d times", status, what, seen[what][status])
			}
		}
	}
}

// Two files that differ in bytes that are not public alone.
func TestManyFilesWithOtherHiddenBytes(t *testing.T) {
	g := maker{rand.New(rand.NewSource(9))}
	differ := 0
	for range 4000 {
		p, font := g.policy(), g.font()
		b := []byte(font)
		public, _ := Public(p, font)
		for at, yes := range public {
			if !yes {
				b[at] = byte(g.Intn(256))
			}
		}
		if string(b) == font {
			continue
		}
		differ++
		again, _ := Public(p, string(b))
		if !slices.Equal(again, public) {
			t.Fatalf("P6: Public(%#v, %x) is not as of %x", p, b, font)
		}
		sameAnswers(t, p, font, string(b))
	}
	if differ < 500 {
		t.Errorf("only %d files have bytes that are not public", differ)
	}
}

// sameAnswers asks with every budget from 0 to what the files take, and one more.
func sameAnswers(t *testing.T, p api.Policy, font, other string) {
	t.Helper()
	_, all, _ := Inspect(p, font, 1<<30)
	for budget := 0; budget <= all.Steps+1; budget++ {
		r, m, e := Inspect(p, font, budget)
		s, n, g := Inspect(p, other, budget)
		if !reflect.DeepEqual(r, s) || m != n || e != g {
			t.Fatalf("P8: with %d steps, Inspect(%#v, %x) = %#v, %v, %d, but of %x: %#v, %v, %d", budget, p, font, r, m, e, other, s, n, g)
		}
	}
}

func FuzzInspect(f *testing.F) {
	g := maker{rand.New(rand.NewSource(10))}
	for range 20 {
		f.Add(g.font(), "head", 1, 60, 1000)
	}
	f.Add("", "", -1, 0, -1)
	f.Fuzz(func(t *testing.T, font, tag string, id, limit, budget int) {
		p := api.Policy{Tags: []string{tag}, IDs: []int{id}, Text: limit}
		r, m, e := Inspect(p, font, budget)
		if e == api.OK {
			if want := modelOf(p, font).told; !reflect.DeepEqual(r, want) {
				t.Errorf("P5: Inspect(%#v, %x) = %#v, want %#v", p, font, r, want)
			}
			if _, e := report.Encode(r); e != api.OK {
				t.Errorf("P5: Inspect(%#v, %x) is not right", p, font)
			}
		} else if !reflect.DeepEqual(r, api.Report{}) {
			t.Errorf("P1: Inspect(%#v, %x): %#v beside %d", p, font, r, e)
		}
		if m.Steps > max(budget, 0) || m.Read > 8*m.Steps {
			t.Errorf("P5: Inspect(%#v, %x): %v with %d", p, font, m, budget)
		}
		public, e := Public(p, font)
		if e == api.OK && !slices.Equal(public, modelOf(p, font).public()) {
			t.Errorf("P6: Public(%#v, %x) = %v", p, font, public)
		}
	})
}
