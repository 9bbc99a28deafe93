package schema

import (
	"strconv"

	"dovetail/api"
	"dovetail/nat"
)

const (
	fromWord     = "from"
	toWord       = "to"
	mostWord     = "most"
	strengthWord = "strength"
	shiftedWord  = "shifted"
	backWord     = "back"

	fullStrength = 4 // that is for Shifted alone
)

// kind is what the fields of a kind may say of their own, beside what all fields may.
type kind struct {
	word  string
	right func(f api.Field) bool      // whether what a field says of its own may be
	strip func(f *api.Field)          // takes it away
	read  func(l *line, f *api.Field) // reads it
	told  func(f api.Field) string    // is it as text, a blank ahead of each word
}

// kinds has a row for each kind that fields have, at its number.
func kinds() []kind {
	return []kind{
		api.Bool:  {"bool", anyRight, stripNothing, readNothing, toldNothing},
		api.Int:   {"int", boundsRight, stripBounds, readBounds, toldBounds},
		api.Bytes: {"bytes", mostRight, stripMost, readMost, toldMost},
		api.ID:    {"id", anyRight, stripNothing, readNothing, toldNothing},
		api.Name:  {"name", mostRight, stripMost, readMost, toldMost},
		api.Text:  {"text", collateRight, stripCollate, readCollate, toldCollate},
		api.Tuple: {"tuple", anyRight, stripFields, readNothing, toldNothing},
	}
}

// maySay tells whether all that a field says may be, but for a tuple's fields.
func maySay(f api.Field) bool {
	if f.Kind < api.Bool || f.Kind > api.Tuple || f.Nulls > api.NullLast {
		return false
	}
	k := kinds()[f.Kind]
	rest := f
	k.strip(&rest)
	return k.right(f) && saysNothing(rest)
}

// saysNothing tells whether a field has nothing that is one kind's alone.
func saysNothing(f api.Field) bool {
	none := api.Num{}
	return !f.Bounded && f.Low == none && f.High == none && f.Most == 0 && f.Collate == api.Collate{} && len(f.Fields) == 0
}

func anyRight(api.Field) bool { return true }

func stripNothing(*api.Field) {}

func readNothing(*line, *api.Field) {}

func toldNothing(api.Field) string { return "" }

func stripFields(f *api.Field) { f.Fields = nil }

func boundsRight(f api.Field) bool {
	if none := (api.Num{}); !f.Bounded {
		return f.Low == none && f.High == none
	}
	order, why := nat.Compare(f.Low, f.High)
	return why == api.OK && order <= 0
}

func stripBounds(f *api.Field) { f.Bounded, f.Low, f.High = false, api.Num{}, api.Num{} }

func readBounds(l *line, f *api.Field) {
	if !l.skip(fromWord) {
		return
	}
	f.Bounded = true
	f.Low = l.takeNumber()
	l.needWord(toWord)
	f.High = l.takeNumber()
}

func toldBounds(f api.Field) string {
	if !f.Bounded {
		return ""
	}
	low, _ := nat.Print(f.Low) // only what may be is told
	high, _ := nat.Print(f.High)
	return said(fromWord) + said(low) + said(toWord) + said(high)
}

func mostRight(f api.Field) bool { return f.Most >= 0 && f.Most <= api.MaxRaw }

func stripMost(f *api.Field) { f.Most = 0 }

func readMost(l *line, f *api.Field) {
	l.needWord(mostWord)
	f.Most = l.takeCount()
}

func toldMost(f api.Field) string { return said(mostWord) + said(strconv.Itoa(f.Most)) }

func collateRight(f api.Field) bool {
	c := f.Collate
	return c.Strength >= 1 && c.Strength <= fullStrength && (c.Strength < fullStrength || c.Shifted)
}

func stripCollate(f *api.Field) { f.Collate = api.Collate{} }

func readCollate(l *line, f *api.Field) {
	l.needWord(strengthWord)
	f.Collate.Strength = l.takeCount()
	f.Collate.Shifted = l.skip(shiftedWord)
	f.Collate.Back = l.skip(backWord)
}

func toldCollate(f api.Field) string {
	c := f.Collate
	return said(strengthWord) + said(strconv.Itoa(c.Strength)) + saidIf(c.Shifted, shiftedWord) + saidIf(c.Back, backWord)
}
