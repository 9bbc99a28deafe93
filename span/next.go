package span

import (
	"dovetail/api"
	"dovetail/field"
	"dovetail/fit"
	"dovetail/ord"
	"dovetail/value"
	"dovetail/weigh"
)

const escapeEnd = 2 // bytes at the end of an escaped text that are none of the text's own

// next is the field behind a beginning.
type next struct {
	tables *weigh.Tables
	field  api.Field
	place  int
	ahead  string // the beginning's bytes
}

// reach is the next field behind a tuple; there is none behind a whole one.
func reach(t *weigh.Tables, s api.Schema, v value.Value) (next, error) {
	b, err := begin(t, s, v)
	if err != nil {
		return next{}, err
	}
	if b.items == len(s.Fields) {
		return next{}, &api.Fault{Code: api.ErrSpanDeep}
	}
	return next{tables: t, field: s.Fields[b.items], place: b.items, ahead: b.bytes}, nil
}

// with is what all keys begin with whose next field is that.
func (n next) with(p api.Part) (string, error) {
	v, e := value.Make(p)
	if e != api.OK {
		return "", &api.Fault{Code: e, Path: []int{n.place}}
	}
	b, err := field.Put(n.tables, n.field, v)
	if err != nil {
		return "", within(err, n.place)
	}
	return n.ahead + b, nil
}

// isEscaped tells whether the field's bytes begin alike where its values do.
func (n next) isEscaped() bool {
	return n.field.Kind == api.Bytes || n.field.Kind == api.Name
}

// tag is the first byte of each value of the field that is not null, so of the one that fit tells, too. (There is no error, as it is one of the field's.)
func (n next) tag() string {
	least, _ := fit.Least(n.field)
	b, _ := field.Put(n.tables, n.field, least)
	return b[:1]
}

// payload is what stands behind the tag where the value begins with start. It is no value itself: it may be too long, or no UTF-8, so that no field would put it.
func (n next) payload(start string) string {
	whole := ord.Escape(start)
	open := whole[:len(whole)-escapeEnd]
	if n.field.Down {
		return ord.Flip(open)
	}
	return open
}

// allWith is the span of all that begins with p.
func allWith(p string) api.Span {
	to, is := ord.Next(p)
	return api.Span{From: p, To: to, Open: !is}
}

// side is all that stands on a bound's side of the keys that have its own value, which begin with q.
func side(b api.Bound, q string) api.Span {
	edge := q
	// these keys stand ahead of the edge where they are left out from above, or kept from below
	if b.Above != b.Equal {
		edge, _ = ord.Next(q) // there is one, as a tag stands first
	}
	if b.Above {
		return api.Span{From: edge, Open: true}
	}
	return api.Span{To: edge}
}
