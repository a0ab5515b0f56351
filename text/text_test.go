package text

import (
	"math"
	"strconv"
	"strings"
	"testing"
	"unicode/utf16"
	"unicode/utf8"

	"visor/api"
)

// twos writes numbers in two bytes each, the higher first.
func twos(numbers ...uint16) string {
	var out strings.Builder
	for _, n := range numbers {
		out.WriteByte(byte(n >> 8))
		out.WriteByte(byte(n))
	}
	return out.String()
}

func check(t *testing.T, platform, encoding int, b string, limit int, want string, marks, status int) {
	t.Helper()
	s, m, k := Tell(platform, encoding, b, limit)
	if s != want || m != marks || k != status {
		t.Errorf("P3: Tell(%d, %d, %x, %d) = %q, %d, %d, want %q, %d, %d", platform, encoding, b, limit, s, m, k, want, marks, status)
	}
}

func TestExamplesOfTheDocument(t *testing.T) {
	check(t, 3, 1, "\x00\x41\xd8\x3d\xde\x00\x00\x3c", 60, "A\xf0\x9f\x98\x80<3c>", 0, api.Good)
	check(t, 0, 0, "\x20\x0e\xd8\x00\x00\x41", 60, "<200e>\xef\xbf\xbdA", 3, api.Good)
	check(t, 1, 0, "abc", 2, "ab", 4, api.Good)
	check(t, 1, 0, "a<", 4, "a", 4, api.Good)
	check(t, 2, 0, "", 60, "", 0, api.Strange)
	check(t, 3, 1, "a", 60, "", 0, api.Bad)
}

func TestPlatformsAndEncodings(t *testing.T) {
	numbers := []int{math.MinInt, -65536, -10, -3, -1, 0, 1, 2, 3, 4, 9, 10, 11, 65535, 65536, 65537, 65539, 1 << 32, 1<<32 + 1, 1<<32 + 3, math.MaxInt}
	for _, platform := range numbers {
		for _, encoding := range numbers {
			switch {
			case platform == 0, platform == 3 && (encoding == 1 || encoding == 10):
				check(t, platform, encoding, "\x00a\x00b", 60, "ab", 0, api.Good)
				check(t, platform, encoding, "", 60, "", 0, api.Good)
				check(t, platform, encoding, "\x00a\x00", 60, "", 0, api.Bad)
			case platform == 1 && encoding == 0:
				check(t, platform, encoding, "ab", 60, "ab", 0, api.Good)
				check(t, platform, encoding, "", 60, "", 0, api.Good)
				check(t, platform, encoding, "a", 60, "a", 0, api.Good)
			default:
				check(t, platform, encoding, "\x00a\x00b", 60, "", 0, api.Strange)
				check(t, platform, encoding, "", 60, "", 0, api.Strange)
				check(t, platform, encoding, "a", 60, "", 0, api.Strange)
			}
		}
	}
}

func TestOddNumbersOfBytesTellNothing(t *testing.T) {
	for _, limit := range []int{math.MinInt, 0, 1, 60} {
		check(t, 0, 0, "\x20\x0e\xd8", limit, "", 0, api.Bad)
		check(t, 3, 1, "\x00", limit, "", 0, api.Bad)
		check(t, 3, 10, "\xd8\x00\xdc", limit, "", 0, api.Bad)
		check(t, 0, -1, strings.Repeat("\x00", 1001), limit, "", 0, api.Bad)
	}
}

func TestHalves(t *testing.T) {
	const no = "\ufffd"
	for _, c := range []struct {
		b     string
		want  string
		marks int
	}{
		{twos(0xd800, 0xdc00), "\U00010000", 0},
		{twos(0xd800, 0xdfff), "\U000103ff", 0},
		{twos(0xd801, 0xdc00), "\U00010400", 0},
		{twos(0xdbff, 0xdc00), "\U0010fc00", 0},
		{twos(0xdbff, 0xdfff), "\U0010ffff", 0},
		{twos(0xd7ff), "\ud7ff", 0},
		{twos(0xe000), "\ue000", 0},
		{twos(0xfffd), no, 0},
		{twos(0xd800), no, 1},
		{twos(0xdbff), no, 1},
		{twos(0xdc00), no, 1},
		{twos(0xdfff), no, 1},
		{twos(0xdc00, 0xd800), no + no, 1},
		{twos(0xd800, 0xd800, 0xdc00), no + "\U00010000", 1},
		{twos(0xd800, 0xdc00, 0xdc00), "\U00010000" + no, 1},
		{twos(0xd800, 0xdbff), no + no, 1},
		{twos(0xd800, 0xe000), no + "\ue000", 1},
		{twos(0xd800, 0xd7ff), no + "\ud7ff", 1},
		{twos(0xd800, '<'), no + "<3c>", 1},
		{twos(0xd800, 0x202e), no + "<202e>", 3},
		{twos('a', 0xd800, 'b', 0xdc00, 'c'), "a" + no + "b" + no + "c", 1},
	} {
		for _, platform := range []int{0, 3} {
			check(t, platform, 1, c.b, 60, c.want, c.marks, api.Good)
		}
	}
}

// listed has the document's own words on what is harmful, in its decimal numbers.
func listed(c int) bool {
	return c < 32 || 127 <= c && c <= 159 || c == 8206 || c == 8207 || 8234 <= c && c <= 8238 || 8294 <= c && c <= 8297
}

func TestEveryCharacter(t *testing.T) {
	for c := 0; c <= 1114111; c++ {
		if c >= 55296 && c <= 57343 {
			continue
		}
		want, marks := string(rune(c)), 0
		if listed(c) || c == '<' {
			want = "<" + strconv.FormatInt(int64(c), 16) + ">"
		}
		if listed(c) {
			marks = api.Hidden
		}
		if Harmful(rune(c)) != listed(c) {
			t.Fatalf("Harmful(%x) = %t", c, !listed(c))
		}
		b := twos(utf16.Encode([]rune{rune(c)})...)
		check(t, 0, 5, b, 60, want, marks, api.Good)
		check(t, 3, 10, b, len(want), want, marks, api.Good)
		check(t, 3, 1, b, len(want)-1, "", api.Cut, api.Good)
	}
}

func TestTheEdgesOfWhatIsHarmful(t *testing.T) {
	b := twos(0, 31, 32, 126, 127, 128, 159, 160, 8205, 8206, 8207, 8208, 8233, 8234, 8238, 8239, 8293, 8294, 8297, 8298)
	want := "<0><1f> ~<7f><80><9f>\u00a0\u200d<200e><200f>\u2010\u2029<202a><202e>\u202f\u2065<2066><2069>\u206a"
	check(t, 3, 1, b, 200, want, api.Hidden, api.Good)
}

func TestEveryByteOfPlatform1(t *testing.T) {
	for c := range 256 {
		want, marks := string(rune(c)), 0
		switch {
		case c >= 128:
			want, marks = "\ufffd", api.Broken
		case listed(c):
			want, marks = "<"+strconv.FormatInt(int64(c), 16)+">", api.Hidden
		case c == '<':
			want = "<3c>"
		}
		check(t, 1, 0, string([]byte{byte(c)}), 60, want, marks, api.Good)
		check(t, 1, 0, string([]byte{'a', byte(c), 'b'}), 60, "a"+want+"b", marks, api.Good)
	}
	check(t, 1, 0, "é", 60, "\ufffd\ufffd", api.Broken, api.Good)
	check(t, 1, 0, "\ufffd", 60, "\ufffd\ufffd\ufffd", api.Broken, api.Good)
	check(t, 1, 0, "\x1b\xff", 60, "<1b>\ufffd", api.Broken|api.Hidden, api.Good)
}

func TestLimits(t *testing.T) {
	for _, limit := range []int{math.MinInt, -60, -1, 0} {
		check(t, 1, 0, "", limit, "", 0, api.Good)
		check(t, 3, 1, "", limit, "", 0, api.Good)
		check(t, 1, 0, "a", limit, "", api.Cut, api.Good)
		check(t, 1, 0, "\x1b\xff", limit, "", api.Cut, api.Good)
		check(t, 0, 0, twos(0xd800, 0x200e), limit, "", api.Cut, api.Good)
	}
	check(t, 1, 0, "a<", 5, "a<3c>", 0, api.Good)
	check(t, 1, 0, "a<b", 5, "a<3c>", api.Cut, api.Good)
	check(t, 1, 0, "a\xff", 4, "a\ufffd", api.Broken, api.Good)
	check(t, 1, 0, "a\xff", 3, "a", api.Cut, api.Good)
	check(t, 1, 0, "a\x1b", 5, "a<1b>", api.Hidden, api.Good)
	check(t, 1, 0, "a\x1b", 4, "a", api.Cut, api.Good)
	check(t, 3, 1, twos('a', 0xd83d, 0xde00), 5, "a\U0001f600", 0, api.Good)
	check(t, 3, 1, twos('a', 0xd83d, 0xde00), 4, "a", api.Cut, api.Good)
	check(t, 3, 1, twos(0xd800, 'a'), 3, "\ufffd", api.Broken|api.Cut, api.Good)
	check(t, 3, 1, twos(0x202e, 'a'), 6, "<202e>", api.Hidden|api.Cut, api.Good)
}

func TestNothingBehindTheCutIsTold(t *testing.T) {
	// The last one would fit, but what does not fit ends the text.
	check(t, 3, 1, twos('a', 0x20ac, 'b'), 3, "a", api.Cut, api.Good)
	check(t, 3, 1, twos('a', 'b', 0xd800), 1, "a", api.Cut, api.Good)
	check(t, 3, 1, twos('a', 'b', 0x200e), 1, "a", api.Cut, api.Good)
	check(t, 3, 1, twos(0xdc00, 'b', 0x200e), 3, "\ufffd", api.Broken|api.Cut, api.Good)
	check(t, 1, 0, "ab\xff\x1b", 1, "a", api.Cut, api.Good)
	check(t, 1, 0, "\x1b<\xff", 4, "<1b>", api.Hidden|api.Cut, api.Good)
}

// expected works the answer out from all the characters at once, by the library's reader of UTF-16.
func expected(numbers []uint16, limit int) (string, int) {
	text, marks, at := "", 0, 0
	for _, c := range utf16.Decode(numbers) {
		s := string(c)
		if listed(int(c)) || c == '<' {
			s = "<" + strconv.FormatInt(int64(c), 16) + ">"
		}
		if len(text)+len(s) > max(limit, 0) {
			return text, marks | api.Cut
		}
		text += s
		if utf16.IsSurrogate(rune(numbers[at])) && c == utf8.RuneError {
			marks |= api.Broken
		}
		if listed(int(c)) {
			marks |= api.Hidden
		}
		at += utf16.RuneLen(c)
	}
	return text, marks
}

func TestShortTextsOfAllSorts(t *testing.T) {
	sorts := []uint16{'a', '<', 0xe9, 0x202e, 0xfffd, 0xd800, 0xdbff, 0xdc00, 0xdfff}
	level := [][]uint16{nil}
	for size := 0; size <= 4; size++ {
		var next [][]uint16
		for _, numbers := range level {
			for limit := -1; limit <= 25; limit++ {
				want, marks := expected(numbers, limit)
				check(t, 3, 1, twos(numbers...), limit, want, marks, api.Good)
			}
			for _, n := range sorts {
				next = append(next, append(append([]uint16{}, numbers...), n))
			}
		}
		level = next
	}
}

func TestLongTextsEnd(t *testing.T) {
	const size = 1 << 20
	for _, limit := range []int{3 * size, math.MaxInt} {
		check(t, 1, 0, strings.Repeat("x", size), limit, strings.Repeat("x", size), 0, api.Good)
		check(t, 1, 0, strings.Repeat("\xff", size), limit, strings.Repeat("\ufffd", size), api.Broken, api.Good)
		check(t, 0, 0, strings.Repeat("\x00<", size/2), limit, strings.Repeat("<3c>", size/2), 0, api.Good)
	}
	check(t, 1, 0, strings.Repeat("x", size), 60, strings.Repeat("x", 60), api.Cut, api.Good)
}

func TestNoTextDoesHarm(t *testing.T) {
	var all []uint16
	for n := range 1 << 16 {
		all = append(all, uint16(n))
	}
	s, marks, status := Tell(0, 0, twos(all...), math.MaxInt)
	if marks != api.Broken|api.Hidden || status != api.Good || !utf8.ValidString(s) {
		t.Errorf("P3: all numbers: marks %d, status %d, UTF-8 %t", marks, status, utf8.ValidString(s))
	}
	for _, c := range s {
		if listed(int(c)) {
			t.Errorf("P3: a harmful character is shown as itself: %x", c)
		}
	}
}
