package report

import (
	"math"
	"reflect"
	"strings"
	"testing"
	"unicode/utf8"
	"unsafe"

	"visor/api"
)

// full is an ordinary report, of which no two numbers beside each other are the same.
func full() api.Report {
	return api.Report{
		Kind: api.Curves,
		Tables: []api.Table{
			{Tag: "OS/2", Status: api.Withheld, Size: 0x0123},
			{Tag: "\x00\xff\x80<", Status: api.Outside, Size: 0},
			{Tag: "name", Status: api.Good, Size: 2000},
		},
		Head:   api.Head{Status: api.Good, Flags: 0x0405, Units: 0x0607},
		Rights: api.Rights{Status: api.Strange, Version: 0x0809, Bits: 0x0a0b},
		Naming: api.Short,
		Names: []api.Name{
			{Platform: 0x0c0d, Encoding: 0x0e0f, Language: 0x1011, ID: 0x1213, Status: api.Bad, Marks: api.Broken | api.Cut, Text: "é<3c>"},
			{Platform: 3, Encoding: 1, Language: 1033, ID: 65535, Status: api.Absent, Marks: api.Hidden},
		},
		Cover: api.Cover{Status: api.Unsorted, Form: 0x1415, Count: 0x0f1617},
	}
}

const fullBytes = "\x02" +
	"\x03" + "OS/2\x04\x01\x23" + "\x00\xff\x80<\x02\x00\x00" + "name\x00\x07\xd0" +
	"\x00\x04\x05\x06\x07" +
	"\x07\x08\x09\x0a\x0b" +
	"\x05" +
	"\x02" + "\x0c\x0d\x0e\x0f\x10\x11\x12\x13\x06\x05\x06\xc3\xa9<3c>" + "\x00\x03\x00\x01\x04\x09\xff\xff\x08\x02\x00" +
	"\x01\x14\x15\x00\x0f\x16\x17"

// greatest has all that a report may have, at its most.
func greatest() api.Report {
	r := api.Report{
		Kind:   api.Packed,
		Head:   api.Head{Status: api.Absent, Flags: 65535, Units: 65535},
		Rights: api.Rights{Status: api.Absent, Version: 65535, Bits: 65535},
		Naming: api.Absent,
		Cover:  api.Cover{Status: api.Absent, Form: 65535, Count: 1114112},
	}
	for range 16 {
		r.Tables = append(r.Tables, api.Table{Tag: "\xff\xff\xff\xff", Status: api.Withheld, Size: 2000})
	}
	for range 20 {
		r.Names = append(r.Names, api.Name{Platform: 65535, Encoding: 65535, Language: 65535, ID: 65535, Status: api.Absent, Marks: 7, Text: strings.Repeat("\U0010ffff", 15)})
	}
	return r
}

func isRight(t *testing.T, r api.Report, want string) {
	t.Helper()
	b, e := Encode(r)
	if b != want || e != api.OK {
		t.Errorf("P4: Encode(%#v) = %x, %d, want %x", r, b, e, want)
	}
	back, e := Decode(want)
	if !reflect.DeepEqual(back, r) || e != api.OK {
		t.Errorf("P4: Decode(%x) = %#v, %d, want %#v", want, back, e, r)
	}
}

func isWrong(t *testing.T, r api.Report) {
	t.Helper()
	if b, e := Encode(r); b != "" || e != api.ErrReport {
		t.Errorf("P4: Encode(%#v) = %x, %d", r, b, e)
	}
}

func areWrong(t *testing.T, b string) {
	t.Helper()
	if r, e := Decode(b); !reflect.DeepEqual(r, api.Report{}) || e != api.ErrReport {
		t.Errorf("P4: Decode(%x) = %#v, %d", b, r, e)
	}
}

func TestExampleOfTheDocument(t *testing.T) {
	isRight(t, api.Report{
		Kind:   api.Outlines,
		Head:   api.Head{Status: api.Absent},
		Rights: api.Rights{Status: api.Absent},
		Naming: api.Absent,
		Cover:  api.Cover{Status: api.Absent},
	}, "\x01\x00"+"\x08\x00\x00\x00\x00"+"\x08\x00\x00\x00\x00"+"\x08"+"\x00"+"\x08\x00\x00\x00\x00\x00\x00")
}

func TestOrdinaryReports(t *testing.T) {
	isRight(t, full(), fullBytes)
	isRight(t, api.Report{}, strings.Repeat("\x00", 21))
}

func TestGreatestReport(t *testing.T) {
	table := "\xff\xff\xff\xff\x04\x07\xd0"
	name := strings.Repeat("\xff", 8) + "\x08\x07\x3c" + strings.Repeat("\xf4\x8f\xbf\xbf", 15)
	five := "\x08\xff\xff\xff\xff"
	want := "\x03\x10" + strings.Repeat(table, 16) + five + five + "\x08\x14" + strings.Repeat(name, 20) + "\x08\xff\xff\x00\x11\x00\x00"
	isRight(t, greatest(), want)
	for i := range len(want) {
		areWrong(t, want[:i])
	}
	areWrong(t, want+"\x00")
}

// numbers are all of a report, the greatest that each may be, and where in fullBytes it stands, in how many bytes.
func numbers(r *api.Report) []struct {
	at               *int
	most, from, size int
} {
	n := &r.Names[0]
	return []struct {
		at               *int
		most, from, size int
	}{
		{&r.Kind, 3, 0, 1},
		{&r.Tables[0].Status, 4, 6, 1},
		{&r.Tables[0].Size, 2000, 7, 2},
		{&r.Tables[2].Status, 4, 20, 1},
		{&r.Tables[2].Size, 2000, 21, 2},
		{&r.Head.Status, 8, 23, 1},
		{&r.Head.Flags, 65535, 24, 2},
		{&r.Head.Units, 65535, 26, 2},
		{&r.Rights.Status, 8, 28, 1},
		{&r.Rights.Version, 65535, 29, 2},
		{&r.Rights.Bits, 65535, 31, 2},
		{&r.Naming, 8, 33, 1},
		{&n.Platform, 65535, 35, 2},
		{&n.Encoding, 65535, 37, 2},
		{&n.Language, 65535, 39, 2},
		{&n.ID, 65535, 41, 2},
		{&n.Status, 8, 43, 1},
		{&n.Marks, 7, 44, 1},
		{&r.Names[1].Marks, 7, 61, 1},
		{&r.Cover.Status, 8, 63, 1},
		{&r.Cover.Form, 65535, 64, 2},
		{&r.Cover.Count, 1114112, 66, 4},
	}
}

// put writes a number into bytes, the highest first.
func put(b string, n, from, size int) string {
	out := []byte(b)
	for i := range size {
		out[from+i] = byte(n >> (8 * (size - 1 - i)))
	}
	return string(out)
}

func TestNumbersAtTheirEdges(t *testing.T) {
	base := full()
	for i := range numbers(&base) {
		most := numbers(&base)[i].most
		for _, v := range []int{0, 1, most / 2, most - 1, most} {
			r := full()
			n := numbers(&r)[i]
			*n.at = v
			isRight(t, r, put(fullBytes, v, n.from, n.size))
		}
		for _, v := range []int{most + 1, most + 2, 1<<16 + most, 1 << 31, 1 << 32, 1<<32 + most, math.MaxInt, -1, -most - 1, -1 << 16, -1 << 31, -1 << 32, math.MinInt, math.MinInt + 1} {
			r := full()
			n := numbers(&r)[i]
			*n.at = v
			isWrong(t, r)
			if v > 0 && v < 1<<(8*n.size) {
				areWrong(t, put(fullBytes, v, n.from, n.size))
			}
		}
	}
}

func TestAllNumbersOfOneAndTwoBytes(t *testing.T) {
	base := full()
	for i, n := range numbers(&base) {
		if n.size > 2 {
			continue
		}
		for v := range 1 << (8 * n.size) {
			b := put(fullBytes, v, n.from, n.size)
			r, e := Decode(b)
			if (e == api.OK) != (v <= n.most) {
				t.Fatalf("P4: Decode with the number %d = %d: %d", i, v, e)
			}
			if e == api.OK && *numbers(&r)[i].at != v {
				t.Fatalf("P4: Decode with the number %d = %d: %#v", i, v, r)
			}
		}
	}
}

func TestCountBeyondItsMost(t *testing.T) {
	for _, v := range []int{1114113, 1 << 24, 1<<24 + 1, 1 << 31, 1<<31 + 1, 1<<32 - 1} {
		areWrong(t, put(fullBytes, v, 66, 4))
	}
}

func TestTags(t *testing.T) {
	for _, tag := range []string{"    ", "\x00\x00\x00\x00", "\xff\xff\xff\xff", "éé", "\x1f\x7f\x80<"} {
		r := full()
		r.Tables[0].Tag = tag
		isRight(t, r, fullBytes[:2]+tag+fullBytes[6:])
	}
	for _, tag := range []string{"", "a", "ab", "abc", "abcde", "éééé", "abcdefgh", strings.Repeat("a", 260)} {
		for i := range 3 {
			r := full()
			r.Tables[i].Tag = tag
			isWrong(t, r)
		}
	}
}

func TestHowManyTables(t *testing.T) {
	rest := strings.Repeat("\x00", 19)
	for n := range 300 {
		var r api.Report
		for range n {
			r.Tables = append(r.Tables, api.Table{Tag: "glyf", Size: 7})
		}
		want := "\x00" + string([]byte{byte(n)}) + strings.Repeat("glyf\x00\x00\x07", n) + rest
		if n <= 16 {
			isRight(t, r, want)
			continue
		}
		isWrong(t, r)
		areWrong(t, want)
	}
}

func TestHowManyNames(t *testing.T) {
	for n := range 300 {
		var r api.Report
		for range n {
			r.Names = append(r.Names, api.Name{ID: 5, Text: "x"})
		}
		want := strings.Repeat("\x00", 13) + string([]byte{byte(n)}) + strings.Repeat("\x00\x00\x00\x00\x00\x00\x00\x05\x00\x00\x01x", n) + strings.Repeat("\x00", 7)
		if n <= 20 {
			isRight(t, r, want)
			continue
		}
		isWrong(t, r)
		areWrong(t, want)
	}
}

func TestLongLists(t *testing.T) {
	isWrong(t, api.Report{Tables: make([]api.Table, 1<<16)})
	isWrong(t, api.Report{Names: make([]api.Name, 1<<16)})
	isWrong(t, api.Report{Names: []api.Name{{Text: strings.Repeat("a", 1<<20)}}})
}

// said is a report with one text, and bytes are its bytes, if it is right.
func said(s string) (r api.Report, bytes string) {
	r.Names = []api.Name{{ID: 1}, {ID: 2, Text: s}}
	head := strings.Repeat("\x00", 13) + "\x02" + "\x00\x00\x00\x00\x00\x00\x00\x01\x00\x00\x00"
	return r, head + "\x00\x00\x00\x00\x00\x00\x00\x02\x00\x00" + string([]byte{byte(len(s))}) + s + strings.Repeat("\x00", 7)
}

func mayBeSaid(t *testing.T, s string, may bool) {
	t.Helper()
	r, b := said(s)
	if may {
		isRight(t, r, b)
		return
	}
	isWrong(t, r)
	areWrong(t, b)
}

// harmful is as the document has it, in its own numbers.
func harmful(c int) bool {
	return c < 32 || 127 <= c && c <= 159 || c == 8206 || c == 8207 || 8234 <= c && c <= 8238 || 8294 <= c && c <= 8297
}

func TestEveryCharacter(t *testing.T) {
	for c := range 1114112 {
		if c < 55296 || c > 57343 {
			mayBeSaid(t, string(rune(c)), !harmful(c))
		}
	}
}

func TestEdgesOfHarm(t *testing.T) {
	for _, c := range []rune{' ', '<', '~', 0xa0, 0x200d, 0x2010, 0x2029, 0x202f, 0x2065, 0x206a, 0xd7ff, 0xe000, 0xfffd, 0xffff, 0x10000, 0x10ffff} {
		mayBeSaid(t, string(c), true)
	}
	for _, c := range []rune{0, 1, '\n', 0x1f, 0x7f, 0x80, 0x9f, 0x200e, 0x200f, 0x202a, 0x202e, 0x2066, 0x2069} {
		mayBeSaid(t, string(c), false)
	}
}

// All texts of up to two bytes, and the first bytes of all sequences with what may and may not follow.
func TestTextsThatAreNoUTF8(t *testing.T) {
	may := func(s string) bool {
		for _, c := range []rune(s) {
			if harmful(int(c)) {
				return false
			}
		}
		return utf8.ValidString(s)
	}
	for a := range 256 {
		mayBeSaid(t, string([]byte{byte(a)}), may(string([]byte{byte(a)})))
		for b := range 256 {
			s := string([]byte{byte(a), byte(b)})
			mayBeSaid(t, s, may(s))
		}
	}
	for _, s := range []string{"\xc0\x80", "\xc0\xbc", "\xc1\xbf", "\xe0\x80\x80", "\xe0\x9f\xbf", "\xed\xa0\x80", "\xed\xbf\xbf", "\xed\xa0\xbd\xed\xb8\x80", "\xf0\x80\x80\x80", "\xf0\x8f\xbf\xbf", "\xf4\x90\x80\x80", "\xf5\x80\x80\x80", "\xf8\x88\x80\x80\x80", "\xe2\x82", "\xf0\x9f\x98", "\xfe", "\xff", "a\x80", "\xef\xbf"} {
		mayBeSaid(t, s, false)
		mayBeSaid(t, "\ufffd"+s, false)
		mayBeSaid(t, s+"\ufffd", false)
		mayBeSaid(t, strings.Repeat("x", 60-len(s))+s, false)
	}
}

func TestSizesOfTexts(t *testing.T) {
	for n := range 256 {
		mayBeSaid(t, strings.Repeat("x", n), n <= 60)
	}
	mayBeSaid(t, strings.Repeat("é", 30), true)
	mayBeSaid(t, strings.Repeat("é", 30)+"x", false)
	mayBeSaid(t, strings.Repeat("é", 31), false)
	mayBeSaid(t, strings.Repeat("\u20ac", 20), true)
	mayBeSaid(t, strings.Repeat("\u20ac", 20)+"\u20ac", false)
	// 256 bytes must not pass as none, nor 316 as 60.
	for _, n := range []int{256, 257, 316, 65536} {
		r, _ := said(strings.Repeat("x", n))
		isWrong(t, r)
	}
}

func TestBytesCutShortOrTooMany(t *testing.T) {
	for i := range len(fullBytes) {
		areWrong(t, fullBytes[:i])
		areWrong(t, fullBytes[i+1:])
	}
	for c := range 256 {
		areWrong(t, fullBytes+string([]byte{byte(c)}))
	}
	areWrong(t, fullBytes+fullBytes)
	areWrong(t, strings.Repeat("\x00", 1<<20))
	areWrong(t, strings.Repeat("\xff", 1<<20))
}

// Whatever is answered of changed bytes: it is those very bytes' report, or nothing.
func TestEveryByteChanged(t *testing.T) {
	for i := range len(fullBytes) {
		for c := range 256 {
			b := put(fullBytes, c, i, 1)
			r, e := Decode(b)
			if e == api.ErrReport {
				areWrong(t, b)
				continue
			}
			isRight(t, r, b)
		}
	}
}

func FuzzDecode(f *testing.F) {
	f.Add(fullBytes)
	f.Add(strings.Repeat("\x00", 21))
	f.Fuzz(func(t *testing.T, b string) {
		r, e := Decode(b)
		if e == api.ErrReport {
			areWrong(t, b)
			return
		}
		isRight(t, r, b)
	})
}

func TestListsAreNotChanged(t *testing.T) {
	r := full()
	r.Tables = append(r.Tables, api.Table{Tag: "zzzz", Status: 9})[:3]
	r.Names = append(r.Names, api.Name{ID: -1})[:2]
	Encode(r)
	if !reflect.DeepEqual(r, full()) || r.Tables[:4][3] != (api.Table{Tag: "zzzz", Status: 9}) || r.Names[:3][2] != (api.Name{ID: -1}) {
		t.Errorf("P2: Encode changed its report: %#v", r)
	}
}

func TestAnswersAreNewMemory(t *testing.T) {
	b := strings.Clone(fullBytes)
	first, _ := Decode(b)
	second, _ := Decode(b)
	tables, names := first.Tables[:cap(first.Tables)], first.Names[:cap(first.Names)]
	for i := range tables {
		tables[i] = api.Table{Tag: "gone"}
	}
	for i := range names {
		names[i] = api.Name{Text: "gone"}
	}
	if !reflect.DeepEqual(second, full()) {
		t.Errorf("P2: two answers share memory: %#v", second)
	}
	third, _ := Decode(b)
	if !reflect.DeepEqual(third, full()) {
		t.Errorf("P2: an answer is kept: %#v", third)
	}
	for _, s := range []string{second.Tables[0].Tag, second.Names[0].Text} {
		from, at := uintptr(unsafe.Pointer(unsafe.StringData(b))), uintptr(unsafe.Pointer(unsafe.StringData(s)))
		if at >= from && at < from+uintptr(len(b)) {
			t.Errorf("P2: the text %q is a piece of what was handed in", s)
		}
	}
}
