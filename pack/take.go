package pack

import (
	"errors"
	"slices"

	"dovetail/api"
	"dovetail/field"
	"dovetail/fit"
	"dovetail/value"
	"dovetail/weigh"
)

// refused is what is told of a schema that may not be. fit speaks of the schema ahead of the value, so it is asked with none; what it then says of null is no matter.
func refused(s api.Schema) error {
	if err := fit.Check(s, nil); errors.Is(err, api.ErrArg) {
		return err
	}
	return nil
}

// take reads a key from the front to its end.
func take(t *weigh.Tables, s api.Schema, key string) (value.Value, error) {
	items := make([]value.Value, len(s.Fields))
	at := 0
	for i, f := range s.Fields {
		v, n, err := field.Take(t, f, key[at:])
		if err != nil {
			return nil, within(err, at, i)
		}
		items[i] = v
		at += n
	}
	if at < len(key) {
		return nil, &api.Fault{Code: api.ErrPackMore, At: at}
	}
	v, _ := value.Of(items...) // a schema has no tuple of more items, nor a deeper one, than there may be
	return v, nil
}

// within is what a field refuses as it stands in the key: behind so many bytes, in the field at that place.
func within(err error, ahead, place int) error {
	var f *api.Fault
	if !errors.As(err, &f) {
		return err
	}
	return &api.Fault{Code: f.Code, At: ahead + f.At, Path: slices.Concat([]int{place}, f.Path), Why: err}
}
