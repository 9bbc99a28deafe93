package span

import (
	"errors"
	"slices"
	"strings"

	"dovetail/api"
	"dovetail/field"
	"dovetail/schema"
	"dovetail/value"
	"dovetail/weigh"
)

// beginning is what the keys have in common that are asked for.
type beginning struct {
	bytes string
	items int // how many fields these are the bytes of
}

// begin is the beginning of a schema that a tuple tells, or why it is none.
func begin(t *weigh.Tables, s api.Schema, v value.Value) (beginning, error) {
	if t == nil {
		return beginning{}, &api.Fault{Code: api.ErrNil}
	}
	if err := schema.Check(s); err != nil {
		return beginning{}, &api.Fault{Code: api.ErrArg, Why: err}
	}
	if _, err := value.Want(v, api.Tuple); err != nil {
		return beginning{}, err
	}
	return beginItems(t, s.Fields, v.(value.List)) // a tuple is one
}

// beginItems is the same of a tuple's items.
func beginItems(t *weigh.Tables, fields []api.Field, l value.List) (beginning, error) {
	if l.Len() > len(fields) {
		return beginning{}, &api.Fault{Code: api.ErrSpanDeep}
	}
	var out strings.Builder
	for i := range l.Len() {
		b, err := field.Put(t, fields[i], l.At(i))
		if err != nil {
			return beginning{}, within(err, i)
		}
		out.WriteString(b)
	}
	return beginning{bytes: out.String(), items: l.Len()}, nil
}

// within is what is wrong in the field at a place, as the schema has it. (The tables and the schema may be, so it is what fit says of the value.)
func within(err error, place int) error {
	var f *api.Fault
	if !errors.As(err, &f) {
		return err
	}
	return &api.Fault{Code: f.Code, At: f.At, Path: slices.Concat([]int{place}, f.Path), Why: f.Why}
}
