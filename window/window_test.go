package window

import (
	"math"
	"strings"
	"testing"
	"unsafe"

	"visor/api"
)

func told(t *testing.T, f *File, steps, read int, spent bool) {
	t.Helper()
	if f.Told() != (api.Meter{Steps: steps, Read: read}) || f.Spent() != spent {
		t.Errorf("P5: told %v, %v, want %d, %d, %v", f.Told(), f.Spent(), steps, read, spent)
	}
}

func TestBudgets(t *testing.T) {
	for _, c := range []struct{ budget, steps int }{{math.MinInt, 0}, {-1, 0}, {0, 0}, {1, 1}, {7, 7}, {9, 9}} {
		f := Open("abc", c.budget)
		for i := range c.steps {
			told(t, f, i, 0, false)
			if !f.Step() {
				t.Errorf("P5: of %d steps, %d is refused", c.budget, i)
			}
		}
		told(t, f, c.steps, 0, false)
		for range 3 {
			if f.Step() {
				t.Errorf("P5: with %d steps, there are more", c.budget)
			}
			if f.Byte(0) != 0 {
				t.Error("P5: a byte is read without a step")
			}
			told(t, f, c.steps, 0, true)
		}
	}
	f := Open("abc", math.MaxInt)
	for range 1000 {
		f.Step()
	}
	told(t, f, 1000, 0, false)
}

func TestEveryWindowCountsWithOneMeter(t *testing.T) {
	f := Open("0123456789", 100)
	table := f.Window(2, 6)
	piece := table.Window(3, 2)
	if b := f.Byte(2); b != '2' {
		t.Errorf("the file's byte at 2: %d", b)
	}
	told(t, f, 1, 1, false)
	if b := table.Byte(2); b != '4' {
		t.Errorf("the table's byte at 2: %d", b)
	}
	told(t, f, 2, 2, false)
	if b := piece.Byte(1); b != '6' {
		t.Errorf("the piece's byte at 1: %d", b)
	}
	told(t, f, 3, 3, false)
	if !piece.Step() || !table.Step() {
		t.Error("a step is refused")
	}
	told(t, f, 5, 3, false)
	if s := table.Bytes(); s != "234567" {
		t.Errorf("the table's bytes: %q", s)
	}
	told(t, f, 11, 9, false)
	if n := table.Two(1); n != '3'<<8+'4' {
		t.Errorf("two bytes at 1: %d", n)
	}
	if n := table.Four(2); n != '4'<<24+'5'<<16+'6'<<8+'7' {
		t.Errorf("four bytes at 2: %d", n)
	}
	told(t, f, 17, 15, false)
	if piece.Told() != f.Told() || table.Told() != f.Told() {
		t.Error("the meters are not the same")
	}
}

func TestGreatNumbers(t *testing.T) {
	w := Open("\xff\xff\xff\xff\x80\x00\x00\x01", 100).Window(0, 8)
	if n := w.Four(0); n != 4294967295 {
		t.Errorf("Four: %d", n)
	}
	if n := w.Four(4); n != 1<<31+1 {
		t.Errorf("Four: %d", n)
	}
	if n := w.Two(2); n != 65535 {
		t.Errorf("Two: %d", n)
	}
}

func TestNothingIsSeenBeyondAWindow(t *testing.T) {
	f := Open("0123456789", 100)
	table := f.Window(2, 6)
	for _, at := range []int{math.MinInt, -3, -1, 6, 7, 8, math.MaxInt} {
		if table.Byte(at) != 0 {
			t.Errorf("the table's byte at %d is seen", at)
		}
	}
	for _, at := range []int{math.MinInt, -1, 10, 11, math.MaxInt} {
		if f.Byte(at) != 0 {
			t.Errorf("the file's byte at %d is seen", at)
		}
	}
	told(t, f, 0, 0, false)
	if n := table.Two(5); n != '7'<<8 {
		t.Errorf("two bytes at the end: %x", n)
	}
	for _, c := range []struct {
		begin, size int
		want        string
	}{{0, 6, "234567"}, {0, 7, "234567"}, {5, 1, "7"}, {5, 2, "7"}, {5, math.MaxInt, "7"}, {6, 0, ""}, {6, 1, ""}, {7, 1, ""}, {math.MaxInt, math.MaxInt, ""}, {-1, 2, "23"}, {1, -1, ""}, {3, 2, "56"}, {math.MinInt, math.MinInt, ""}} {
		w := table.Window(c.begin, c.size)
		if s := w.Bytes(); s != c.want || w.Size() != len(c.want) {
			t.Errorf("the table's window (%d, %d) shows %q of %d", c.begin, c.size, s, w.Size())
		}
	}
	for _, c := range []struct {
		begin, size int
		want        string
	}{{0, 10, "0123456789"}, {0, 11, "0123456789"}, {9, 2, "9"}, {10, 1, ""}, {11, 1, ""}, {math.MaxInt, math.MaxInt, ""}, {-5, 1, "0"}, {4, -1, ""}} {
		w := f.Window(c.begin, c.size)
		if s := w.Bytes(); s != c.want || w.Size() != len(c.want) {
			t.Errorf("the file's window (%d, %d) shows %q of %d", c.begin, c.size, s, w.Size())
		}
	}
}

func TestHolds(t *testing.T) {
	f := Open("0123456789", 0)
	table := f.Window(4, 6)
	for _, c := range []struct {
		begin, size int
		want        bool
	}{{0, 0, true}, {0, 6, true}, {0, 7, false}, {5, 1, true}, {5, 2, false}, {6, 0, true}, {6, 1, false}, {7, 0, false}, {1, math.MaxInt, false}, {math.MaxInt, 1, false}, {math.MaxInt, math.MaxInt, false}} {
		if table.Holds(c.begin, c.size) != c.want {
			t.Errorf("the table's Holds(%d, %d) is not %v", c.begin, c.size, c.want)
		}
		if Open("012345", 0).Holds(c.begin, c.size) != c.want {
			t.Errorf("the file's Holds(%d, %d) is not %v", c.begin, c.size, c.want)
		}
	}
	if f.Size() != 10 || table.Size() != 6 || Open("", 9).Size() != 0 {
		t.Error("Size")
	}
	told(t, f, 0, 0, false)
}

func TestShares(t *testing.T) {
	f := Open("0123456789", 0)
	for _, c := range []struct {
		a, as, b, bs int
		want         bool
	}{{0, 3, 3, 3, false}, {0, 4, 3, 3, true}, {2, 5, 3, 1, true}, {4, 2, 4, 2, true}, {4, 0, 4, 0, false}, {4, 0, 3, 3, false}, {4, 1, 4, 0, false}, {0, 1, 9, 1, false}, {0, 10, 9, 1, true}} {
		x, y := f.Window(c.a, c.as), f.Window(c.b, c.bs)
		if x.Shares(y) != c.want || y.Shares(x) != c.want {
			t.Errorf("P5: (%d, %d) and (%d, %d) share bytes: not %v", c.a, c.as, c.b, c.bs, c.want)
		}
	}
}

func TestPlaces(t *testing.T) {
	begin, end := Open("0123456789", 0).Window(2, 6).Window(1, 3).Places()
	if begin != 3 || end != 6 {
		t.Errorf("Places: %d, %d", begin, end)
	}
}

func TestBytesAreACopyAndStop(t *testing.T) {
	data := strings.Repeat("x", 1000)
	f := Open(data, 1000)
	s := f.Window(0, 1000).Bytes()
	if s != data || unsafe.StringData(s) == unsafe.StringData(data) {
		t.Error("P2: the bytes are not a copy")
	}
	told(t, f, 1000, 1000, false)
	g := Open(data, 10)
	if s := g.Window(0, 1000).Bytes(); len(s) > 11 {
		t.Errorf("P5: %d bytes with 10 steps", len(s))
	}
	told(t, g, 10, 10, true)
}
