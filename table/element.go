package table

import "dovetail/api"

const (
	maxWeight  = 0xffff
	maxPrimary = 0xfb3f // above it stand those that are implied

	baseCore  = 0xfb40 // of most ideographs
	baseMore  = 0xfb80 // of those that came later
	baseOther = 0xfbc0

	impliedSecondary = 0x20
	impliedTertiary  = 2

	lowBits  = 15
	lowFloor = 0x8000 // so that the lower half of a point is never a weight of 0
)

// isRight tells whether an element may stand in a table.
func isRight(e api.Element) bool {
	if !isWeight(e.Primary) || !isWeight(e.Secondary) || !isWeight(e.Tertiary) || e.Primary > maxPrimary {
		return false
	}
	if e.Primary != 0 && e.Secondary == 0 || e.Secondary != 0 && e.Tertiary == 0 {
		return false
	}
	return e.Primary != 0 || !e.Variable
}

func isWeight(n int) bool { return n >= 0 && n <= maxWeight }

// allRight tells whether these may be an entry's elements.
func allRight(l []api.Element) bool {
	if len(l) == 0 || len(l) > api.MaxElements {
		return false
	}
	for _, e := range l {
		if !isRight(e) {
			return false
		}
	}
	return true
}

// Implied are the elements of a point that stands nowhere.
func Implied(point int) []api.Element {
	if !isPoint(point) {
		return nil
	}
	return []api.Element{
		{Primary: base(point) + point>>lowBits, Secondary: impliedSecondary, Tertiary: impliedTertiary},
		{Primary: lowFloor + point&(1<<lowBits-1)},
	}
}

// base is where the primary weights of a point's sort begin.
func base(point int) int {
	switch {
	case point >= 0x4e00 && point <= 0x9fff, point >= 0xf900 && point <= 0xfaff:
		return baseCore
	case point >= 0x3400 && point <= 0x4dbf, point >= 0x20000 && point <= 0x3ffff:
		return baseMore
	}
	return baseOther
}
