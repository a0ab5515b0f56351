package visor

import (
	"math"
	"reflect"
	"testing"

	"visor/api"
)

func TestText(t *testing.T) {
	for _, c := range []struct {
		platform, encoding int
		b                  string
		limit              int
		want               string
		marks, status      int
	}{
		{3, 1, "\x00\x41\xd8\x3d\xde\x00\x00\x3c", 60, "A\U0001f600<3c>", 0, api.Good},
		{0, 0, "\x20\x0e\xd8\x00\x00\x41", 60, "<200e>\ufffdA", api.Broken | api.Hidden, api.Good},
		{1, 0, "abc", 2, "ab", api.Cut, api.Good},
		{1, 0, "a<", 4, "a", api.Cut, api.Good},
		{1, 0, "a\x80", 60, "a\ufffd", api.Broken, api.Good},
		{3, 10, "\x00a", -1, "", api.Cut, api.Good},
		{2, 0, "", 60, "", 0, api.Strange},
		{3, 1, "a", 60, "", 0, api.Bad},
	} {
		s, m, k := Text(c.platform, c.encoding, c.b, c.limit)
		if s != c.want || m != c.marks || k != c.status {
			t.Errorf("P3: Text(%d, %d, %x, %d) = %q, %d, %d, want %q, %d, %d", c.platform, c.encoding, c.b, c.limit, s, m, k, c.want, c.marks, c.status)
		}
	}
}

// All that Text may be handed: it ends, and tells nothing where it is not Good.
func TestTextAtAllNumbersAndStrings(t *testing.T) {
	numbers := []int{math.MinInt, -1, 0, 1, 2, 3, 10, 60, math.MaxInt}
	strings := []string{"", "\x00", "\xd8", "\xd8\x00", "\xd8\x00\xdc", "\xd8\x00\xdc\x00", "\xdc\x00", "\xff\xff", "\x20\x2e<\x00"}
	for _, platform := range numbers {
		for _, encoding := range numbers {
			for _, b := range strings {
				for _, limit := range numbers {
					s, m, k := Text(platform, encoding, b, limit)
					if k != api.Good && (s != "" || m != 0) {
						t.Errorf("P1: Text(%d, %d, %x, %d) = %q, %d, %d", platform, encoding, b, limit, s, m, k)
					}
					if len(s) > max(limit, 0) {
						t.Errorf("P3: Text(%d, %d, %x, %d) = %q", platform, encoding, b, limit, s)
					}
				}
			}
		}
	}
}

func TestReports(t *testing.T) {
	none := api.Report{
		Kind:   api.Outlines,
		Head:   api.Head{Status: api.Absent},
		Rights: api.Rights{Status: api.Absent},
		Naming: api.Absent,
		Cover:  api.Cover{Status: api.Absent},
	}
	some := none
	some.Tables = []api.Table{{Tag: "name", Status: api.Good, Size: 258}}
	some.Naming = api.Good
	some.Names = []api.Name{{Platform: 3, Encoding: 1, Language: 1033, ID: 4, Status: api.Good, Marks: api.Hidden, Text: "é<200e>"}}
	for _, c := range []struct {
		r api.Report
		b string
	}{
		{none, "\x01\x00\x08\x00\x00\x00\x00\x08\x00\x00\x00\x00\x08\x00\x08\x00\x00\x00\x00\x00\x00"},
		{some, "\x01\x01name\x00\x01\x02\x08\x00\x00\x00\x00\x08\x00\x00\x00\x00\x00\x01\x00\x03\x00\x01\x04\x09\x00\x04\x00\x02\x08é<200e>\x08\x00\x00\x00\x00\x00\x00"},
	} {
		if b, e := Encode(c.r); b != c.b || e != api.OK {
			t.Errorf("P4: Encode(%#v) = %x, %d, want %x", c.r, b, e, c.b)
		}
		if r, e := Decode(c.b); !reflect.DeepEqual(r, c.r) || e != api.OK {
			t.Errorf("P4: Decode(%x) = %#v, %d, want %#v", c.b, r, e, c.r)
		}
		if r, e := Decode(c.b + "\x00"); !reflect.DeepEqual(r, api.Report{}) || e != api.ErrReport {
			t.Errorf("P4: Decode(%x00) = %#v, %d", c.b, r, e)
		}
	}
}

func TestWhatIsNoReport(t *testing.T) {
	for _, r := range []api.Report{
		{Kind: 4},
		{Kind: -1},
		{Tables: make([]api.Table, 1)},
		{Names: make([]api.Name, 21)},
		{Names: []api.Name{{Text: "\xff"}}},
		{Names: []api.Name{{Text: "\u202e"}}},
		{Cover: api.Cover{Count: math.MaxInt}},
		{Cover: api.Cover{Count: math.MinInt}},
	} {
		if b, e := Encode(r); b != "" || e != api.ErrReport {
			t.Errorf("P4: Encode(%#v) = %x, %d", r, b, e)
		}
	}
	for _, b := range []string{"", "\x00", "\xff", "\x01\x00\x08"} {
		if r, e := Decode(b); !reflect.DeepEqual(r, api.Report{}) || e != api.ErrReport {
			t.Errorf("P4: Decode(%x) = %#v, %d", b, r, e)
		}
	}
}
