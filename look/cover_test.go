package look

import (
	"strings"
	"testing"

	"visor/api"
)

// coverOf puts a table behind and ahead of the cmap: neither must be taken for a part of it.
func coverOf(t *testing.T, data string) api.Cover {
	t.Helper()
	font := blocks(block{"aaaa", strings.Repeat("\x00", 50)}, block{"cmap", data}, block{"zzzz", strings.Repeat("\x00", 300)})
	return inspect(t, open60, font).Cover
}

func TestPartsOfCover(t *testing.T) {
	strange, short, bad := api.Cover{Status: api.Strange}, api.Cover{Status: api.Short}, api.Cover{Status: api.Bad}
	great := func(n int) string { return great([2]int{1, n}) }
	count := func(n int) api.Cover { return api.Cover{Form: 12, Count: n} }
	many := func(n int) string {
		return two(0, n) + strings.Repeat(two(3, 10)+four(4+8*n), n)
	}
	for i, c := range []struct {
		data string
		want api.Cover
	}{
		{"", short},
		{two(0) + "\x00", short},
		{two(1) + "\x00", short},
		{two(0, 0), strange},
		{two(1, 0), strange},
		{two(1, 99), strange},
		{two(256, 1), strange},
		{two(0, 21), bad},
		{many(21) + great(5), bad},
		{two(0, 65535), bad},
		{two(0, 20), short},
		{many(20) + great(5), count(5)},
		{many(20), short},
		{many(20)[:163], short},
		{many(1)[:11], short},
		// which of them
		{cmapTable(part{3, 10, great(1)}), count(1)},
		{cmapTable(part{0, 0, great(1)}), count(1)},
		{cmapTable(part{0, 65535, great(1)}), count(1)},
		{cmapTable(part{3, 1, great(1)}), count(1)},
		{cmapTable(part{3, 0, great(1)}), strange},
		{cmapTable(part{3, 2, great(1)}), strange},
		{cmapTable(part{3, 9, great(1)}), strange},
		{cmapTable(part{3, 11, great(1)}), strange},
		{cmapTable(part{1, 0, great(1)}), strange},
		{cmapTable(part{1, 10, great(1)}), strange},
		{cmapTable(part{2, 1, great(1)}), strange},
		{cmapTable(part{4, 1, great(1)}), strange},
		{cmapTable(part{4, 10, great(1)}), strange},
		{cmapTable(part{3, 1, great(1)}, part{3, 1, great(2)}), count(1)},
		{cmapTable(part{0, 3, great(1)}, part{0, 4, great(2)}), count(1)},
		{cmapTable(part{3, 10, great(1)}, part{3, 10, great(2)}), count(1)},
		{cmapTable(part{3, 1, great(1)}, part{0, 3, great(2)}), count(2)},
		{cmapTable(part{0, 3, great(1)}, part{3, 1, great(2)}), count(1)},
		{cmapTable(part{0, 3, great(1)}, part{3, 10, great(2)}), count(2)},
		{cmapTable(part{3, 10, great(1)}, part{0, 3, great(2)}), count(1)},
		{cmapTable(part{3, 1, great(1)}, part{3, 10, great(2)}), count(2)},
		{cmapTable(part{3, 10, great(1)}, part{3, 1, great(2)}), count(1)},
		{cmapTable(part{1, 0, great(1)}, part{3, 1, great(2)}, part{0, 3, great(3)}, part{3, 10, great(4)}, part{3, 10, great(5)}), count(4)},
		// the part is what it is, though another one would be Good
		{cmapTable(part{3, 1, great(1)}, part{3, 10, two(6)}), strange},
		{cmapTable(part{3, 1, great(1)}, part{3, 10, ""}), short},
		// where it begins
		{two(0, 1, 3, 10) + four(12) + two(6), strange},
		{two(0, 1, 3, 10) + four(12) + "\x00", short},
		{two(0, 1, 3, 10) + four(12), short},
		{two(0, 1, 3, 10) + four(13), short},
		{two(0, 1, 3, 10) + four(1<<32-1) + great(1), short},
		{two(0, 1, 3, 10) + four(1<<32-2) + great(1), short},
		{two(0, 1, 3, 10) + four(1<<16) + great(1), short},
		{two(0, 1, 3, 10) + four(0) + great(1), strange},
		{two(0, 1, 3, 10) + four(13) + "x" + great(1), count(1)},
		// its form
		{cmapTable(part{3, 10, set(great(1), 0, two(11))}), strange},
		{cmapTable(part{3, 10, set(great(1), 0, two(13))}), strange},
		{cmapTable(part{3, 10, set(great(1), 0, two(0))}), strange},
		{cmapTable(part{3, 10, set(great(1), 0, two(3))}), strange},
		{cmapTable(part{3, 10, set(great(1), 0, two(5))}), strange},
		{cmapTable(part{3, 10, set(great(1), 0, two(256+4))}), strange},
		{cmapTable(part{3, 10, set(great(1), 0, two(256+12))}), strange},
		{cmapTable(part{3, 10, two(4)}), short},
		{cmapTable(part{3, 10, two(12)}), short},
	} {
		if got := coverOf(t, c.data); got != c.want {
			t.Errorf("P5: %d: Cover %#v, want %#v", i, got, c.want)
		}
	}
}

func TestForm4(t *testing.T) {
	strings16 := strings.Repeat("x", 16)
	short, bad := api.Cover{Status: api.Short}, api.Cover{Status: api.Bad}
	count := func(n int) api.Cover { return api.Cover{Form: 4, Count: n} }
	type r = [2]int
	one := small(r{65535, 65535})
	three := small(r{0, 0}, r{65, 90}, r{100, 65535})
	for i, c := range []struct {
		data string
		want api.Cover
	}{
		{one, count(0)},
		{three, count(1 + 26 + 65435)},
		{three + "behind", count(1 + 26 + 65435)},
		{small(r{0, 65535}), count(65535)},
		{small(r{65534, 65535}), count(1)},
		{small(r{0, 65534}, r{65535, 65535}), count(65535)},
		{small(r{55296, 57343}, r{65535, 65535}), count(2048)},
		// its size
		{set(one, 2, two(len(one)+1)), short},
		{set(one, 2, two(len(one)+1)) + "x", count(0)},
		{set(one, 2, two(len(one)-1)), short},
		{set(one, 2, two(65535)), short},
		{set(one, 2, two(0)), short},
		{set(one, 2, two(15)), short},
		{set(one, 2, two(16)), short},
		{set(three, 2, two(len(three)-1)), short},
		{one[:len(one)-1], short},
		{one[:15], short},
		{set(one, 2, two(15))[:15], short},
		{set(one, 2, two(16))[:16], short},
		{set(set(one, 2, two(15)), 6, two(3)), short},
		{set(set(one, 2, two(15)), 6, two(3))[:15], short},
		{set(set(one, 2, two(16)), 6, two(3))[:16], bad},
		{set(set(one, 2, two(16)), 6, two(0))[:16], bad},
		{set(set(one, 2, two(17)), 6, two(3))[:16], short},
		// twice the number of ranges
		{set(one, 6, two(0)), bad},
		{set(one, 6, two(1)), bad},
		{set(one, 6, two(3)), bad},
		{set(one, 6, two(65535)), bad},
		{set(one, 6, two(4)), short},
		{set(one, 6, two(65534)), short},
		{set(three, 6, two(8)), short},
		// what says nothing
		{set(one, 4, two(65535)), count(0)},
		{set(set(one, 8, strings16[:6]), 16, "xx"), count(0)},
		{set(one, 20, "wxyz"), count(0)},
		// the ranges
		{small(r{65535, 65534}), bad},
		{small(r{5, 4}, r{65535, 65535}), bad},
		{small(r{5, 5}, r{65535, 65535}), count(1)},
		{small(r{5, 9}, r{9, 65535}), bad},
		{small(r{5, 9}, r{10, 65535}), count(5 + 65525)},
		{small(r{5, 9}, r{8, 65535}), bad},
		{small(r{5, 9}, r{0, 3}, r{65535, 65535}), bad},
		{small(r{5, 9}, r{5, 9}, r{65535, 65535}), bad},
		{small(r{0, 0}, r{0, 0}, r{65535, 65535}), bad},
		{small(r{0, 65535}, r{65535, 65535}), bad},
		{small(r{0, 65535}, r{0, 65535}), bad},
		{small(r{5, 65534}), bad},
		{small(r{5, 0}), bad},
		{small(r{5, 9}, r{65535, 65535}, r{3, 3}), bad},
		{small(r{5, 9}, r{20, 30}), bad},
		{small(r{65535, 65535}, r{65535, 65535}), bad},
	} {
		if got := coverOf(t, cmapTable(part{3, 1, c.data})); got != c.want {
			t.Errorf("P5: %d: Cover %#v, want %#v", i, got, c.want)
		}
	}
}

func TestForm12(t *testing.T) {
	const far = 1<<32 - 1
	short, bad := api.Cover{Status: api.Short}, api.Cover{Status: api.Bad}
	count := func(n int) api.Cover { return api.Cover{Form: 12, Count: n} }
	type r = [2]int
	none, one, three := great(), great(r{65, 90}), great(r{0, 0}, r{65, 90}, r{65536, 1114111})
	for i, c := range []struct {
		data string
		want api.Cover
	}{
		{none, count(0)},
		{one, count(26)},
		{three, count(1 + 26 + 1048576)},
		{three + "behind", count(1 + 26 + 1048576)},
		{great(r{0, 1114111}), count(1114112)},
		{great(r{55296, 57343}), count(2048)},
		{great(r{65535, 65535}), count(1)},
		// its size
		{set(none, 4, four(15)), short},
		{set(none, 4, four(0)), short},
		{set(none, 4, four(17)), short},
		{set(none, 4, four(17)) + "x", count(0)},
		{set(none, 4, four(far)), short},
		{set(none, 4, four(1<<16+16)), short},
		{none[:15], short},
		{none[:12], short},
		{none[:8], short},
		{none[:5], short},
		{set(none, 4, four(15))[:15], short},
		{set(one, 4, four(27)), short},
		{set(one, 4, four(29)), short},
		{set(one, 4, four(29)) + "x", count(26)},
		{one[:27], short},
		{set(three, 4, four(51)), short},
		// the number of ranges
		{set(none, 12, four(1)), short},
		{set(none, 12, four(far)), short},
		{set(one, 12, four(2)), short},
		{set(one, 12, four(0)), count(0)},
		{set(three, 12, four(1)), count(1)},
		{set(three, 12, four(2)), count(27)},
		{set(one, 12, four(far)), short},
		{set(one, 12, four(1<<16)), short},
		{set(one, 12, four(1<<31)), short},
		// twelve times this number is 4 in four bytes, and 8 times this one is 8
		{set(one, 12, four(357913942)), short},
		{set(one, 12, four(1<<30+1)), short},
		// what says nothing
		{set(one, 2, "\xff\xff"), count(26)},
		{set(one, 8, four(far)), count(26)},
		{set(one, 24, four(far)), count(26)},
		// the ranges
		{great(r{5, 4}), bad},
		{great(r{5, 5}), count(1)},
		{great(r{5, 9}, r{9, 12}), bad},
		{great(r{5, 9}, r{10, 12}), count(8)},
		{great(r{5, 9}, r{1, 4}), bad},
		{great(r{0, 0}, r{0, 0}), bad},
		{great(r{1114111, 1114111}), count(1)},
		{great(r{1114112, 1114112}), bad},
		{great(r{0, 1114112}), bad},
		{great(r{0, far}), bad},
		{great(r{far, far}), bad},
		{great(r{5, 9}, r{far, far}), bad},
		{great(r{5, 1114112}, r{10, 12}), bad},
		{great(r{5, 1114112}, r{1114113, 1114114}), bad},
		{great(r{far, 9}), bad},
		{great(r{5, 9}, r{12, 11}, r{20, 30}), bad},
	} {
		if got := coverOf(t, cmapTable(part{0, 4, c.data})); got != c.want {
			t.Errorf("P5: %d: Cover %#v, want %#v", i, got, c.want)
		}
	}
}
