package compat

import (
	"strings"

	"dovetail/api"
	"dovetail/fit"
	"dovetail/value"
)

// witness is a tuple of the schema in which the difference shows, with a key as short as any that has this.
func witness(s api.Schema, d difference) api.Part {
	return tuple(s.Fields, d.path(), d)
}

// tuple is the shortest one of these fields in which a difference shows that a path leads to, from here on; without places the difference is in none of them.
func tuple(fields []api.Field, path []int, d difference) api.Part {
	p := api.Part{Kind: api.Tuple}
	for i, f := range fields {
		switch {
		case len(path) == 0 || path[0] != i:
			p.Items = append(p.Items, shortest(f))
		case len(path) == 1:
			p.Items = append(p.Items, showing(f, d))
		default:
			p.Items = append(p.Items, tuple(f.Fields, path[1:], d))
		}
	}
	return p
}

// showing is the shortest of what the field has, in which its difference shows.
func showing(f api.Field, d difference) api.Part {
	switch d := d.(type) {
	case nullness:
		return api.Part{}
	case numbers:
		return api.Part{Kind: api.Int, Num: d.least}
	case length:
		return api.Part{Kind: f.Kind, Raw: strings.Repeat("a", d.bytes)} // none of them wants an escape, and it is UTF-8
	}
	return filled(f) // a difference in count or shape shows in all that is not null
}

// shortest is what has the fewest bytes of all that the field has.
func shortest(f api.Field) api.Part {
	if f.Nulls != api.NeverNull {
		return api.Part{}
	}
	return filled(f)
}

// filled is the same of what is not null.
func filled(f api.Field) api.Part {
	switch f.Kind {
	case api.Tuple:
		return tuple(f.Fields, nil, nil)
	case api.Int:
		return api.Part{Kind: api.Int, Num: least(f)}
	}
	v, _ := fit.Least(f) // has no bytes, where it may have some
	return value.Tell(v)
}

// size is how many bytes the items of such a tuple have in a key.
func size(fields []api.Field, items []api.Part) int {
	sum := 0
	for i, f := range fields {
		sum += itemSize(f, items[i])
	}
	return sum
}

// itemSize is the same of one of them: what has no bytes that want an escape, and of texts the empty one, whose sort key is but the ends of its levels.
func itemSize(f api.Field, p api.Part) int {
	switch p.Kind {
	case api.Bool:
		return 2
	case api.Int:
		return 1 + bytesOf(p.Num)
	case api.Bytes, api.Name:
		return 3 + len(p.Raw)
	case api.ID:
		return 17
	case api.Text:
		return 4 + 2*f.Collate.Strength
	case api.Tuple:
		return 2 + size(f.Fields, p.Items)
	}
	return 1
}
