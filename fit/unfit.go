package fit

import (
	"errors"
	"slices"

	"dovetail/api"
	"dovetail/nat"
	"dovetail/utf"
	"dovetail/value"
)

// unfit is why a value is none of a field's, which may be; nil, if it is one.
func unfit(f api.Field, v value.Value) error {
	if v == nil {
		return unfitNull(f)
	}
	if _, err := value.Want(v, f.Kind); err != nil {
		return &api.Fault{Code: api.ErrFitKind, Why: err}
	}
	switch known := v.(type) {
	case value.Raw:
		return unfitBytes(f, known.Bytes())
	case value.List:
		return unfitItems(f.Fields, known)
	}
	if outOfBounds(f, v) {
		return &api.Fault{Code: api.ErrFitRange}
	}
	return nil
}

func unfitNull(f api.Field) error {
	if f.Nulls == api.NeverNull {
		return &api.Fault{Code: api.ErrFitNull}
	}
	return nil
}

// outOfBounds tells whether a value is a number of which the field wants none.
func outOfBounds(f api.Field, v value.Value) bool {
	if n, is := v.(value.Number); is && f.Bounded {
		return above(f.Low, n.Num()) || above(n.Num(), f.High)
	}
	return false
}

// above tells whether the one number is above the other; both may be.
func above(a, b api.Num) bool {
	order, _ := nat.Compare(a, b)
	return order > 0
}

// unfitBytes is why these bytes are none of a field's of their kind.
func unfitBytes(f api.Field, raw string) error {
	if hasMost(f.Kind) && len(raw) > f.Most {
		return &api.Fault{Code: api.ErrFitLong}
	}
	if !isSpelt(f.Kind) {
		return nil
	}
	if at := utf.Check(raw); at >= 0 {
		return &api.Fault{Code: api.ErrFitUtf, At: at, Why: api.ErrUtfForm}
	}
	return nil
}

// hasMost tells whether the fields of a kind say how many bytes there may be.
func hasMost(k api.Kind) bool { return k == api.Bytes || k == api.Name }

// isSpelt tells whether the values of a kind are UTF-8.
func isSpelt(k api.Kind) bool { return k == api.Name || k == api.Text }

// unfitItems is why a tuple is none of these fields: of the first item that is none of its own field's, with its place ahead in the path.
func unfitItems(fields []api.Field, l value.List) error {
	if l.Len() != len(fields) {
		return &api.Fault{Code: api.ErrFitCount}
	}
	for i, f := range fields {
		var bad *api.Fault
		if errors.As(unfit(f, l.At(i)), &bad) {
			bad.Path = slices.Insert(bad.Path, 0, i)
			return bad
		}
	}
	return nil
}
