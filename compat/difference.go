package compat

import (
	"iter"
	"slices"

	"dovetail/api"
)

// difference is something by which a key of the one schema may be none of the other's. Which sort it is says what the field must have so that it shows.
type difference interface {
	// path leads to the field; of the schemas themselves it has no places.
	path() []int
}

// place is where a difference stands.
type place []int

func (p place) path() []int { return p }

// count is that there are not as many fields.
type count struct{ place }

// shape is that what is not null has other bytes: by another kind, turned, or weighed otherwise.
type shape struct{ place }

// nullness is that the other field has no null, or one that stands elsewhere.
type nullness struct{ place }

// numbers are those that the other field has not.
type numbers struct {
	place
	least api.Num // one of those that have the fewest bytes
}

// length is that the other field has fewer bytes at most.
type length struct {
	place
	bytes int // so many are one too many
}

// differences are those of two schemas, from the front on, each ahead of those within it.
func differences(s, to api.Schema) iter.Seq[difference] {
	return func(yield func(difference) bool) {
		if len(s.Fields) != len(to.Fields) {
			yield(count{})
			return
		}
		for d := range within(nil, s.Fields, to.Fields) {
			if !yield(d) {
				return
			}
		}
	}
}

// within are the differences of the fields of two tuples that have as many.
func within(path place, s, to []api.Field) iter.Seq[difference] {
	return func(yield func(difference) bool) {
		for i := range s {
			for d := range between(append(slices.Clone(path), i), s[i], to[i]) {
				if !yield(d) {
					return
				}
			}
		}
	}
}

// between are the differences of two fields at one path, and of those within them.
func between(path place, f, g api.Field) iter.Seq[difference] {
	return func(yield func(difference) bool) {
		if d, is := nullsApart(path, f, g); is && !yield(d) {
			return
		}
		if d, is := apart(path, f, g); is {
			yield(d)
			return
		}
		for d := range within(path, f.Fields, g.Fields) {
			if !yield(d) {
				return
			}
		}
	}
}

// nullsApart is the difference in null, if there is one.
func nullsApart(path place, f, g api.Field) (difference, bool) {
	return nullness{path}, f.Nulls != api.NeverNull && f.Nulls != g.Nulls
}

// apart is the difference in what is not null, if there is one: of several that which shows in more, as all others show only where it does.
func apart(path place, f, g api.Field) (difference, bool) {
	if f.Kind != g.Kind || f.Down != g.Down || f.Collate != g.Collate {
		return shape{path}, true
	}
	switch f.Kind {
	case api.Tuple:
		return count{path}, len(f.Fields) != len(g.Fields)
	case api.Int:
		n, is := leastApart(f, g)
		return numbers{path, n}, is
	case api.Bytes, api.Name:
		return length{path, g.Most + 1}, g.Most < f.Most
	}
	return nil, false
}
