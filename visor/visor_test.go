package visor

import (
	"math"
	"testing"

	"visor/api"
)

func TestText(t *testing.T) {
	for _, c := range []struct {
		platform, encoding int
		b                  string
		limit              int
		want               string
		marks, status      int
	}{
		{3, 1, "\x00\x41\xd8\x3d\xde\x00\x00\x3c", 60, "A\U0001f600<3c>", 0, api.Good},
		{0, 0, "\x20\x0e\xd8\x00\x00\x41", 60, "<200e>\ufffdA", api.Broken | api.Hidden, api.Good},
		{1, 0, "abc", 2, "ab", api.Cut, api.Good},
		{1, 0, "a<", 4, "a", api.Cut, api.Good},
		{1, 0, "a\x80", 60, "a\ufffd", api.Broken, api.Good},
		{3, 10, "\x00a", -1, "", api.Cut, api.Good},
		{2, 0, "", 60, "", 0, api.Strange},
		{3, 1, "a", 60, "", 0, api.Bad},
	} {
		s, m, k := Text(c.platform, c.encoding, c.b, c.limit)
		if s != c.want || m != c.marks || k != c.status {
			t.Errorf("P3: Text(%d, %d, %x, %d) = %q, %d, %d, want %q, %d, %d", c.platform, c.encoding, c.b, c.limit, s, m, k, c.want, c.marks, c.status)
		}
	}
}

// All that Text may be handed: it ends, and tells nothing where it is not Good.
func TestTextAtAllNumbersAndStrings(t *testing.T) {
	numbers := []int{math.MinInt, -1, 0, 1, 2, 3, 10, 60, math.MaxInt}
	strings := []string{"", "\x00", "\xd8", "\xd8\x00", "\xd8\x00\xdc", "\xd8\x00\xdc\x00", "\xdc\x00", "\xff\xff", "\x20\x2e<\x00"}
	for _, platform := range numbers {
		for _, encoding := range numbers {
			for _, b := range strings {
				for _, limit := range numbers {
					s, m, k := Text(platform, encoding, b, limit)
					if k != api.Good && (s != "" || m != 0) {
						t.Errorf("P1: Text(%d, %d, %x, %d) = %q, %d, %d", platform, encoding, b, limit, s, m, k)
					}
					if len(s) > max(limit, 0) {
						t.Errorf("P3: Text(%d, %d, %x, %d) = %q", platform, encoding, b, limit, s)
					}
				}
			}
		}
	}
}
