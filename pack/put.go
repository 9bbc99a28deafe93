package pack

import (
	"strings"

	"dovetail/api"
	"dovetail/field"
	"dovetail/value"
	"dovetail/weigh"
)

// put is the key of a value that fit has found to be a tuple of the schema's: so it is a list, and no field refuses its item.
func put(t *weigh.Tables, s api.Schema, v value.Value) (string, error) {
	items := v.(value.List)
	var key strings.Builder
	for i, f := range s.Fields {
		b, _ := field.Put(t, f, items.At(i))
		key.WriteString(b)
		// it grows only, so the fields behind need not be asked
		if key.Len() > s.Limit {
			return "", &api.Fault{Code: api.ErrPackLong}
		}
	}
	return key.String(), nil
}
