// Package text reads the bytes of a name as characters, and shows them so that they do no harm.
package text

import (
	"strings"

	"visor/api"
)

// Tell answers the text that a name's bytes say, its marks and its status (P3).
func Tell(platform int, encoding int, b string, limit int) (string, int, int) {
	if !known(platform, encoding) {
		return "", 0, api.Strange
	}
	if platform == macintoshPlatform {
		shown, marks := show(b, limit, narrow)
		return shown, marks, api.Good
	}
	if len(b)%2 != 0 {
		return "", 0, api.Bad
	}
	shown, marks := show(b, limit, wide)
	return shown, marks, api.Good
}

const (
	unicodePlatform   = 0
	macintoshPlatform = 1
	windowsPlatform   = 3
)

func known(platform int, encoding int) bool {
	switch platform {
	case unicodePlatform:
		return true
	case macintoshPlatform:
		return encoding == 0
	case windowsPlatform:
		return encoding == 1 || encoding == 10
	}
	return false
}

// show stops reading at the first character that does not fit: nothing behind it may leave a mark.
func show(b string, limit int, first func(string) character) (string, int) {
	var out strings.Builder
	marks := 0
	for len(b) > 0 {
		c := first(b)
		s := shown(c.value)
		// No sum is made with limit, which may be any number.
		if out.Len()+len(s) > limit {
			return out.String(), marks | api.Cut
		}
		out.WriteString(s)
		marks |= c.marks()
		b = b[c.size:]
	}
	return out.String(), marks
}
