package window

import "visor/api"

// Meter counts steps and bytes that are read, and refuses what goes beyond its budget.
type Meter struct {
	left  int
	spent bool
	told  api.Meter
}

// Step takes a step, and tells whether there was one left to take.
func (m *Meter) Step() bool {
	if m.left == 0 {
		m.spent = true
		return false
	}
	m.left--
	m.told.Steps++
	return true
}

// read is a step that a byte is read with: so there are never more bytes than steps.
func (m *Meter) read() bool {
	if !m.Step() {
		return false
	}
	m.told.Read++
	return true
}

// Spent tells whether a step was refused: if so, what was read is not what the file says.
func (m *Meter) Spent() bool {
	return m.spent
}

// Told answers what was counted.
func (m *Meter) Told() api.Meter {
	return m.told
}
