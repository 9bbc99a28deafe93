package order

import (
	"cmp"
	"strings"

	"dovetail/api"
	"dovetail/nat"
	"dovetail/value"
	"dovetail/weigh"
)

const (
	ahead  = -1
	alike  = 0
	behind = 1
)

// stand is how two values of a field, which fit has found to be such, stand to each other.
func stand(t *weigh.Tables, f api.Field, a, b value.Value) int {
	// nulls come first, as they stay where they are though the field falls
	if a == nil || b == nil {
		return nullsStand(f.Nulls, a == nil, b == nil)
	}
	n := kindStands(t, f, a, b)
	if f.Down {
		return -n
	}
	return n
}

// nullsStand is how two values stand of which one at least is null: by NullFirst the null one of them stands ahead, else the other one.
func nullsStand(n api.Nulls, a, b bool) int {
	switch {
	case a && b:
		return alike
	case a == (n == api.NullFirst):
		return ahead
	}
	return behind
}

// kindStands is how two values that are not null stand by their kind; as both are of the field's, the second is what the first is.
func kindStands(t *weigh.Tables, f api.Field, a, b value.Value) int {
	switch first := a.(type) {
	case value.Number:
		return numbersStand(first.Num(), b.(value.Number).Num())
	case value.Raw:
		return bytesStand(t, f, first.Bytes(), b.(value.Raw).Bytes())
	case value.List:
		return itemsStand(t, f.Fields, first, b.(value.List))
	}
	return truthsStand(a.Part().Yes, b.Part().Yes)
}

func truthsStand(a, b bool) int {
	switch {
	case a == b:
		return alike
	case b:
		return ahead
	}
	return behind
}

// numbersStand is the order of two numbers; both may be, so there is no error.
func numbersStand(a, b api.Num) int {
	n, _ := nat.Compare(a, b)
	return n
}

// bytesStand is the order of bytes, but of texts first by what they weigh. (There is no error in that: the field's collation is right, and the texts are UTF-8 and not too long.)
func bytesStand(t *weigh.Tables, f api.Field, a, b string) int {
	weighs := alike
	if f.Kind == api.Text {
		weighs, _ = t.Compare(f.Collate, a, b)
	}
	return cmp.Or(weighs, strings.Compare(a, b))
}

// itemsStand is how the first items stand that are not alike, each by its own field.
func itemsStand(t *weigh.Tables, fields []api.Field, a, b value.List) int {
	for i, f := range fields {
		if n := stand(t, f, a.At(i), b.At(i)); n != alike {
			return n
		}
	}
	return alike
}
