package weigh

import (
	"slices"

	"dovetail/api"
)

const (
	maxPlain   = 3      // the greatest Strength of a collation that is not Shifted
	maxShifted = 4      // and of one that is
	notShifted = 0xffff // at the level 4: above all that variable elements weigh there
	weightSize = 2      // bytes
)

// isRight tells whether texts can be compared so.
func isRight(c api.Collate) bool {
	most := maxPlain
	if c.Shifted {
		most = maxShifted
	}
	return c.Strength >= 1 && c.Strength <= most
}

// level is one of a sort key's: what it takes of an element, by whether that is wiped, and whether it goes from the back on.
type level struct {
	weight  func(e api.Element, wiped bool) int
	shifted bool
	back    bool
}

// levels are those of a collation that is right.
func levels(c api.Collate) []level {
	all := []level{
		{weight: primary, shifted: c.Shifted},
		{weight: secondary, shifted: c.Shifted, back: c.Back},
		{weight: tertiary, shifted: c.Shifted},
		{weight: fourth, shifted: c.Shifted},
	}
	return all[:c.Strength]
}

// weights are the level of a text that has these elements. (No weight has more than sixteen bits, and a text may have millions.)
func (l level) weights(elements []api.Element) []uint16 {
	row := make([]uint16, 0, len(elements))
	wiped := false
	for _, e := range elements {
		// what has no primary weight (a variable one always has) goes with the last one ahead of it that has
		if e.Primary != 0 {
			wiped = l.shifted && e.Variable
		}
		if n := l.weight(e, wiped); n != 0 {
			row = append(row, uint16(n))
		}
	}
	if l.back {
		slices.Reverse(row)
	}
	return row
}

func primary(e api.Element, wiped bool) int {
	if wiped {
		return 0
	}
	return e.Primary
}

func secondary(e api.Element, wiped bool) int {
	if wiped {
		return 0
	}
	return e.Secondary
}

func tertiary(e api.Element, wiped bool) int {
	if wiped {
		return 0
	}
	return e.Tertiary
}

// fourth is what the level 4 takes, that collations have which are Shifted: there variable elements, and these alone, are told apart.
func fourth(e api.Element, wiped bool) int {
	switch {
	case e.Variable:
		return e.Primary
	case wiped || e == (api.Element{}):
		return 0
	}
	return notShifted
}

// appendLevel puts a level's bytes behind a key. The noughts at its end are below every weight: so a level that is another one's beginning stands ahead of it.
func appendLevel(key []byte, row []uint16) []byte {
	for _, n := range row {
		key = append(key, byte(n>>8), byte(n))
	}
	return append(key, 0, 0)
}
