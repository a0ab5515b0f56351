package text

import (
	"strconv"
	"unicode/utf8"

	"visor/api"
)

// character is one that was read: broken tells that it stands for bytes that are none.
type character struct {
	value  rune
	size   int // bytes that it was read from
	broken bool
}

// The halves: a first one and a last one behind it are one character, from beyond on.
const (
	firstHalves = 0xd800
	lastHalves  = 0xdc00
	endOfHalves = 0xe000
	beyond      = 0x10000
)

// narrow reads the first character of b, which is not empty, from one byte.
func narrow(b string) character {
	if b[0] >= utf8.RuneSelf {
		return character{value: utf8.RuneError, size: 1, broken: true}
	}
	return character{value: rune(b[0]), size: 1}
}

// wide reads the first character of b, whose size is even and not 0, from two bytes or four.
func wide(b string) character {
	high := pair(b)
	if high < firstHalves || high >= endOfHalves {
		return character{value: high, size: 2}
	}
	if high < lastHalves && len(b) >= 4 {
		low := pair(b[2:])
		if low >= lastHalves && low < endOfHalves {
			return character{value: beyond + (high-firstHalves)<<10 + (low - lastHalves), size: 4}
		}
	}
	// Only the one half is taken: what is behind it may be a character of its own.
	return character{value: utf8.RuneError, size: 2, broken: true}
}

func pair(b string) rune {
	return rune(b[0])<<8 | rune(b[1])
}

func (c character) marks() int {
	marks := 0
	if c.broken {
		marks |= api.Broken
	}
	if Harmful(c.value) {
		marks |= api.Hidden
	}
	return marks
}

// Harmful tells whether a character must not be shown as itself: those that steer a terminal, and those that turn the direction of writing.
func Harmful(c rune) bool {
	switch {
	case c < 0x20, c >= 0x7f && c <= 0x9f:
		return true
	case c == 0x200e, c == 0x200f, c >= 0x202a && c <= 0x202e, c >= 0x2066 && c <= 0x2069:
		return true
	}
	return false
}

// shown spells `<` too, so that no file can feign a spelt character.
func shown(c rune) string {
	if c == '<' || Harmful(c) {
		return "<" + strconv.FormatInt(int64(c), 16) + ">"
	}
	return string(c)
}
