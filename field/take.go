package field

import (
	"slices"
	"strings"

	"dovetail/api"
	"dovetail/nat"
	"dovetail/ord"
	"dovetail/utf"
	"dovetail/weigh"
)

const (
	noNumber = 0x00 // the first byte of no number's bytes
	farDown  = 0x01 // of those below 0 that say behind it how many they are
	nought   = 0x80 // of 0's
	farUp    = 0xff // of those above 0 that say behind it how many they are
	highest  = 0xff // less a byte: the byte turned
)

// reader goes through bytes from the front on; at is the place that it has come to, path that of the field it is in.
type reader struct {
	tables *weigh.Tables
	bytes  string // as they are read here: turned, if an odd number of fields falls that this place stands in
	other  string // each of them turned once more; none, as long as nothing fell
	at     int
	path   []int
}

// turn reads what follows turned, or no longer so.
func (r *reader) turn() {
	if r.other == "" {
		r.other = ord.Flip(r.bytes)
	}
	r.bytes, r.other = r.other, r.bytes
}

// need gives up what does not hold, in the field that the reader is in.
func (r *reader) need(holds bool, bad api.Fault) {
	if !holds {
		bad.Path = slices.Clone(r.path)
		panic(&bad)
	}
}

// look is the next bytes, which are wanted.
func (r *reader) look(n int) string {
	r.need(len(r.bytes)-r.at >= n, api.Fault{Code: api.ErrFieldShort, At: len(r.bytes)})
	return r.bytes[r.at : r.at+n]
}

// next reads these bytes.
func (r *reader) next(n int) string {
	s := r.look(n)
	r.at += n
	return s
}

// take reads a field's bytes.
func (r *reader) take(f api.Field) api.Part {
	at := r.at
	first := r.next(1)
	if first == nullTag(f.Nulls) {
		return api.Part{}
	}
	r.need(first == tag(f), api.Fault{Code: api.ErrFieldTag, At: at})
	if !f.Down {
		return r.takePayload(f)
	}
	r.turn()
	p := r.takePayload(f)
	r.turn()
	return p
}

// takePayload reads what stands behind the tag of what is not null.
func (r *reader) takePayload(f api.Field) api.Part {
	p := api.Part{Kind: f.Kind}
	switch f.Kind {
	case api.Bool:
		p.Yes = r.takeTruth()
	case api.Int:
		p.Num = r.takeNumber(f)
	case api.ID:
		p.Raw = strings.Clone(r.next(idBytes))
	case api.Text:
		p.Raw = r.takeText(f.Collate)
	case api.Tuple:
		p.Items = r.takeItems(f.Fields)
	default:
		p.Raw = r.takeRaw(f)
	}
	return p
}

func (r *reader) takeTruth() bool {
	at := r.at
	s := r.next(1)
	r.need(s == no || s == yes, api.Fault{Code: api.ErrFieldShape, At: at})
	return s == yes
}

func (r *reader) takeNumber(f api.Field) api.Num {
	at := r.at
	n, _, e := nat.Take(r.next(r.numberSize()), 0)
	r.need(e == api.OK, api.Fault{Code: api.ErrFieldShape, At: at, Why: api.ErrNatForm})
	r.need(!f.Bounded || within(f, n), api.Fault{Code: api.ErrFitRange, At: at})
	return n
}

// numberSize is how many bytes a number has in all, by its first ones, whatever these are.
func (r *reader) numberSize() int {
	first := int(r.look(1)[0])
	switch {
	case first == farUp:
		return 2 + int(r.look(2)[1])
	case first == farDown:
		return 2 + highest - int(r.look(2)[1])
	case first == noNumber:
		return 1
	case first < nought:
		return 1 + nought - first
	}
	return 1 + first - nought
}

// within tells whether a number lies in the bounds that a field has.
func within(f api.Field, n api.Num) bool {
	low, _ := nat.Compare(f.Low, n)
	high, _ := nat.Compare(n, f.High)
	return low <= 0 && high <= 0
}

// takeRaw reads a value of Bytes or Name.
func (r *reader) takeRaw(f api.Field) string {
	at := r.at
	s := r.takeEscaped()
	r.need(len(s) <= f.Most, api.Fault{Code: api.ErrFitLong, At: at})
	if f.Kind == api.Name {
		r.needSpelt(s, at)
	}
	return s
}

// takeEscaped reads an escaped text.
func (r *reader) takeEscaped() string {
	s, end, e := ord.Unescape(r.bytes, r.at)
	if e != api.OK {
		r.need(end < len(r.bytes), api.Fault{Code: api.ErrFieldShort, At: end})
		// it is the 00 that is told, where ord tells the byte behind it
		r.need(false, api.Fault{Code: api.ErrFieldEscape, At: end - 1, Why: api.ErrOrdForm})
	}
	r.at = end
	return s
}

// needSpelt gives up bytes that are no UTF-8, which were read from that place on.
func (r *reader) needSpelt(s string, at int) {
	r.need(utf.Check(s) < 0, api.Fault{Code: api.ErrFitUtf, At: at, Why: api.ErrUtfForm})
}

// takeText reads a value of Text: what it weighs is held against the text once that can be weighed.
func (r *reader) takeText(c api.Collate) string {
	at := r.at
	r.need(r.next(1) == mode(c), api.Fault{Code: api.ErrFieldShape, At: at})
	from := r.at
	key := r.takeSortKey(c.Strength)
	at = r.at
	s := r.takeEscaped()
	r.need(len(s) <= api.MaxRaw, api.Fault{Code: api.ErrFitLong, At: at})
	r.needSpelt(s, at)
	weighs, _ := r.tables.Key(c, s)
	r.need(key == weighs, api.Fault{Code: api.ErrFieldWeight, At: from})
	return s
}

// takeSortKey reads the weights of so many levels, each with its end.
func (r *reader) takeSortKey(levels int) string {
	from := r.at
	for levels > 0 {
		if r.next(len(levelEnd)) == levelEnd {
			levels--
		}
	}
	return r.bytes[from:r.at]
}

// takeItems reads a tuple's fields, and the byte behind them.
func (r *reader) takeItems(fields []api.Field) []api.Part {
	items := make([]api.Part, len(fields))
	last := len(r.path)
	r.path = append(r.path, 0)
	for i, f := range fields {
		r.path[last] = i
		items[i] = r.take(f)
	}
	r.path = r.path[:last]
	at := r.at
	r.need(r.next(1) == tupleEnd, api.Fault{Code: api.ErrFieldShape, At: at})
	return items
}
