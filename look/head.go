package look

import (
	"math/bits"

	"visor/api"
	"visor/window"
)

const (
	headSize   = 54
	headMagic  = "\x5f\x0f\x3c\xf5"
	leastUnits = 16
	mostUnits  = 16384
)

func head(t window.Table, status int) api.Head {
	if status != api.Good {
		return api.Head{Status: status}
	}
	if t.Size() < headSize {
		return api.Head{Status: api.Short}
	}
	magic, flags, units := t.Window(12, 4).Bytes(), t.Two(16), t.Two(18)
	if magic != headMagic || units < leastUnits || units > mostUnits {
		return api.Head{Status: api.Bad}
	}
	return api.Head{Status: api.Good, Flags: flags, Units: units}
}

const (
	rightsSize  = 10
	mostVersion = 5
	oneUseOnly  = 3 // the version from which on there may be no more than one use
)

// What a font may be used for.
const (
	_          = 1 << iota
	restricted // 2
	preview    // 4
	editable   // 8

	uses = restricted | preview | editable
)

// What is asked besides.
const (
	wholeOnly   = 256 << iota
	bitmapsOnly // 512
)

func rights(t window.Table, status int) api.Rights {
	if status != api.Good {
		return api.Rights{Status: status}
	}
	if t.Size() < rightsSize {
		return api.Rights{Status: api.Short}
	}
	version, set := t.Two(0), t.Two(8)
	if version > mostVersion {
		return api.Rights{Status: api.Strange}
	}
	if set&^(uses|wholeOnly|bitmapsOnly) != 0 || version >= oneUseOnly && bits.OnesCount(uint(set&uses)) > 1 {
		return api.Rights{Status: api.Bad}
	}
	return api.Rights{Status: api.Good, Version: version, Bits: set}
}
