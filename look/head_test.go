package look

import (
	"strings"
	"testing"

	"visor/api"
)

func TestHead(t *testing.T) {
	good := headTable(258, 1000)
	for i, c := range []struct {
		data string
		want api.Head
	}{
		{good, api.Head{Flags: 258, Units: 1000}},
		{good + "behind", api.Head{Flags: 258, Units: 1000}},
		{good[:53], api.Head{Status: api.Short}},
		{"", api.Head{Status: api.Short}},
		{strings.Repeat("x", 53), api.Head{Status: api.Short}},
		{strings.Repeat("x", 54), api.Head{Status: api.Bad}},
		{headTable(0, 16), api.Head{Units: 16}},
		{headTable(65535, 16384), api.Head{Flags: 65535, Units: 16384}},
		{headTable(1, 15), api.Head{Status: api.Bad}},
		{headTable(1, 16385), api.Head{Status: api.Bad}},
		{headTable(1, 0), api.Head{Status: api.Bad}},
		{headTable(1, 65535), api.Head{Status: api.Bad}},
		{set(good, 11, "\x00"), api.Head{Flags: 258, Units: 1000}},
		{set(good, 12, "\x5e"), api.Head{Status: api.Bad}},
		{set(good, 13, "\x0e"), api.Head{Status: api.Bad}},
		{set(good, 14, "\x3d"), api.Head{Status: api.Bad}},
		{set(good, 15, "\xf4"), api.Head{Status: api.Bad}},
		{set(good, 20, "\x00"), api.Head{Flags: 258, Units: 1000}},
	} {
		if r := inspect(t, open60, blocks(block{"head", c.data}, block{"zzzz", "zz"})); r.Head != c.want {
			t.Errorf("P5: %d: Head %#v, want %#v", i, r.Head, c.want)
		}
	}
}

// Every version from 0 to 7 with each of all bits, by the document's own words.
func TestRights(t *testing.T) {
	for version := range 8 {
		for bits := range 1 << 16 {
			got := 0
			for _, use := range []int{2, 4, 8} {
				if bits&use != 0 {
					got++
				}
			}
			want := api.Rights{Version: version, Bits: bits}
			switch {
			case version > 5:
				want = api.Rights{Status: api.Strange}
			case bits&^(2+4+8+256+512) != 0, version >= 3 && version <= 5 && got > 1:
				want = api.Rights{Status: api.Bad}
			}
			if r, _, _ := Inspect(open60, blocks(block{"OS/2", rightsTable(version, bits)}), 9999); r.Rights != want {
				t.Fatalf("P5: Rights of %d, %d: %#v, want %#v", version, bits, r.Rights, want)
			}
		}
	}
	for i, c := range []struct {
		data string
		want api.Rights
	}{
		{rightsTable(5, 8), api.Rights{Version: 5, Bits: 8}},
		{rightsTable(5, 8) + "behind", api.Rights{Version: 5, Bits: 8}},
		{rightsTable(5, 8)[:9], api.Rights{Status: api.Short}},
		{rightsTable(6, 1)[:9], api.Rights{Status: api.Short}},
		{"", api.Rights{Status: api.Short}},
		{rightsTable(65535, 0), api.Rights{Status: api.Strange}},
		{rightsTable(256, 0), api.Rights{Status: api.Strange}},
		{rightsTable(0, 0), api.Rights{}},
	} {
		if r := inspect(t, open60, blocks(block{"OS/2", c.data}, block{"zzzz", "zz"})); r.Rights != c.want {
			t.Errorf("P5: %d: Rights %#v, want %#v", i, r.Rights, c.want)
		}
	}
}
