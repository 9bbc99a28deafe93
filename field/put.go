package field

import (
	"strings"

	"dovetail/api"
	"dovetail/nat"
	"dovetail/ord"
	"dovetail/value"
	"dovetail/weigh"
)

// put is the bytes of a value that fit has found to be one of the field's.
func put(t *weigh.Tables, f api.Field, v value.Value) string {
	switch known := v.(type) {
	case nil:
		// it stays where it is though the field falls
		return nullTag(f.Nulls)
	case value.List:
		return tag(f) + turnedIf(f.Down, putItems(t, f.Fields, known))
	}
	return tag(f) + turnedIf(f.Down, putPlain(t, f, v))
}

// turnedIf is bytes, each turned if the field falls that they are the payload of. (So those deeper within are turned once more for each tuple that falls about them.)
func turnedIf(falls bool, payload string) string {
	if falls {
		return ord.Flip(payload)
	}
	return payload
}

// putItems is the payload of a tuple.
func putItems(t *weigh.Tables, fields []api.Field, l value.List) string {
	var out strings.Builder
	for i, f := range fields {
		out.WriteString(put(t, f, l.At(i)))
	}
	out.WriteString(tupleEnd)
	return out.String()
}

// putPlain is the payload of what is neither null nor a tuple; the value is what its field's kind says, so no assertion panics.
func putPlain(t *weigh.Tables, f api.Field, v value.Value) string {
	switch f.Kind {
	case api.Bool:
		return putTruth(v.Part().Yes)
	case api.Int:
		return putNumber(v.(value.Number).Num())
	case api.ID:
		return v.(value.Raw).Bytes()
	case api.Text:
		return putText(t, f.Collate, v.(value.Raw).Bytes())
	}
	return ord.Escape(v.(value.Raw).Bytes())
}

func putTruth(is bool) string {
	if is {
		return yes
	}
	return no
}

// putNumber is a number's bytes; there is no error, as what stands in a value may be.
func putNumber(n api.Num) string {
	s, _ := nat.Put(n)
	return s
}

// putText is a text's payload; there is no error, as the field's collation is right, and the text is UTF-8 and not too long.
func putText(t *weigh.Tables, c api.Collate, s string) string {
	key, _ := t.Key(c, s)
	return mode(c) + key + ord.Escape(s)
}
