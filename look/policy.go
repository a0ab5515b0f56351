package look

import (
	"slices"

	"visor/api"
)

const (
	tagSize    = 4
	mostNumber = 1<<16 - 1
)

// policy tells whether p is one. How many there are is asked first, so that lists of any length cost nothing.
func policy(p api.Policy) bool {
	return len(p.Tags) <= api.MaxTags &&
		len(p.IDs) <= api.MaxIDs &&
		p.Text >= 1 && p.Text <= api.MaxText &&
		!slices.ContainsFunc(p.Tags, noTag) &&
		!slices.ContainsFunc(p.IDs, noID)
}

func noTag(tag string) bool {
	if len(tag) != tagSize {
		return true
	}
	for _, b := range []byte(tag) {
		if b < ' ' || b > '~' {
			return true
		}
	}
	return false
}

func noID(id int) bool {
	return id < 0 || id > mostNumber
}
