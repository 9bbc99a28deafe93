package compat_test

import (
	"testing"

	"dovetail/api"
)

// pair is two fields, and from how many bytes on the first one has a value that the other one refuses; 0, if there is none.
type pair struct {
	f, g api.Field
	size int
}

// sizes is P17.2's bytes of the shortest value of each kind (is of it) that is not null.
func sizes() map[api.Kind]int {
	return map[api.Kind]int{api.Bool: 2, api.Int: 2, api.Bytes: 3, api.ID: 17, api.Name: 3, api.Text: 10, api.Tuple: 4}
}

// pairs are two fields with each of the differences 1 to 5, alone.
func pairs() []pair {
	both := func(n api.Nulls, p pair) pair { return pair{nulls(n, p.f), nulls(n, p.g), p.size} }
	var l []pair
	for k := api.Bool; k <= api.Tuple; k++ {
		for other := api.Bool; other <= api.Tuple; other++ {
			if k != other {
				l = append(l, pair{is(k), is(other), sizes()[k]})
			}
		}
		l = append(l, pair{is(k), down(is(k)), sizes()[k]}, pair{down(is(k)), is(k), sizes()[k]})
	}
	one, two := is(api.Bool), is(api.ID)
	l = append(l,
		pair{tupleOf(one), tupleOf(one, one), 4}, pair{tupleOf(one, two), tupleOf(one), 21},
		pair{tupleOf(nulls(api.NullLast, one)), tupleOf(two, one), 3},
		pair{upTo(300), upTo(255), 4}, pair{most(9, is(api.Bytes)), most(4, is(api.Bytes)), 8}, pair{most(9, is(api.Name)), most(0, is(api.Name)), 4},
		pair{collated(api.Collate{Strength: 2}), collated(api.Collate{Strength: 3}), 8},
	)
	for _, p := range l { // nulls that are the same are no way out, but where it is null
		l = append(l, both(api.NullFirst, p), both(api.NullLast, p))
	}
	for k := api.Bool; k <= api.Tuple; k++ {
		l = append(l, pair{nulls(api.NullFirst, is(k)), is(k), 1}, pair{nulls(api.NullLast, is(k)), is(k), 1}, pair{nulls(api.NullFirst, is(k)), nulls(api.NullLast, is(k)), 1}, pair{nulls(api.NullLast, is(k)), nulls(api.NullFirst, is(k)), 1})
		l = append(l, pair{is(k), nulls(api.NullFirst, is(k)), 0}, pair{is(k), nulls(api.NullLast, is(k)), 0})
	}
	return l
}

// wantPair: two schemas with these two fields among others, whose shortest key has so many bytes more.
func wantPair(t *testing.T, s, to api.Schema, p pair, more int) {
	t.Helper()
	if p.size == 0 {
		wantNone(t, s, to)
		return
	}
	wantFrom(t, s, to, p.size+more)
}

// TestEach is P17.1 and P17.2: each difference alone, as the only field and between others, at the limits about its shortest key.
func TestEach(t *testing.T) {
	id, maybe := is(api.ID), nulls(api.NullLast, tupleOf(is(api.ID)))
	for _, p := range pairs() {
		wantPair(t, schemaOf(1, p.f), schemaOf(1, p.g), p, 0)
		wantPair(t, schemaOf(1, p.f, id), schemaOf(1, p.g, id), p, 17)
		wantPair(t, schemaOf(1, maybe, p.f), schemaOf(1, maybe, p.g), p, 1)
		wantPair(t, schemaOf(1, maybe, p.f, id), schemaOf(1, maybe, p.g, id), p, 18)
	}
}

// TestDeep is P17.1 and P17.2: each difference within tuples of several depths; all of these must not be null, those beside it are, if they may be.
func TestDeep(t *testing.T) {
	for _, p := range pairs() {
		for _, deep := range []int{1, 2, 5, 14} {
			wrap := func(f api.Field) api.Field {
				for i := range deep {
					f = nulls(api.Nulls(i%3), tupleOf(nulls(api.NullFirst, is(api.Bool)), f, is(api.Int)))
					f.Down = i%2 == 0
				}
				return f
			}
			wantPair(t, schemaOf(1, wrap(p.f), is(api.Bool)), schemaOf(1, wrap(p.g), is(api.Bool)), p, deep*(2+1+2)+2)
		}
	}
}

// TestDeepest is P17.1 and P17.2: fields as deep as they may be, and as many.
func TestDeepest(t *testing.T) {
	wrap := func(f api.Field) api.Field {
		for range 15 {
			f = tupleOf(f)
		}
		return f
	}
	wantFrom(t, schemaOf(1, wrap(upTo(300))), schemaOf(1, wrap(upTo(255))), 30+4)
	wantFrom(t, schemaOf(1, wrap(is(api.Bool))), schemaOf(1, wrap(is(api.Int))), 32)
	s, to := many(64), many(64)
	wantNone(t, s, to)
	to.Fields[63].Down = true
	wantFrom(t, s, to, 128)
	wantFrom(t, s, many(63), 128)
	wantFrom(t, many(63), s, 126)
}

// TestCount is P17.1: schemas that do not have as many fields, whatever these are; every key is refused.
func TestCount(t *testing.T) {
	no, id, maybe := is(api.Bool), is(api.ID), nulls(api.NullFirst, is(api.Text))
	wantFrom(t, schemaOf(1, no), schemaOf(1, no, no), 2)
	wantFrom(t, schemaOf(1, no, no), schemaOf(1, no), 4)
	wantFrom(t, schemaOf(1, maybe), schemaOf(1, maybe, maybe), 1)
	wantFrom(t, schemaOf(1, maybe, maybe), schemaOf(1, maybe), 2)
	wantFrom(t, schemaOf(1, maybe, id, no), schemaOf(1, id, maybe), 20)
	wantFrom(t, schemaOf(1, is(api.Text), no, no), schemaOf(1, id), 14)
	wantFrom(t, schemaOf(1, tupleOf(no, no)), schemaOf(1, no, no), 6) // the same fields, but in a tuple
	wantFrom(t, schemaOf(1, no, no), schemaOf(1, tupleOf(no, no)), 4)
	wantFrom(t, schemaOf(1, maybe, upTo(300)), schemaOf(1, nulls(api.NullLast, is(api.Text)), upTo(255), no), 3)
}

// TestCountWithin is P17.1: of two tuples that do not have as many fields all but null is refused; what stands in them is not gone through.
func TestCountWithin(t *testing.T) {
	no, id := is(api.Bool), is(api.ID)
	for n := api.NeverNull; n <= api.NullLast; n++ {
		wantFrom(t, schemaOf(1, nulls(n, tupleOf(no))), schemaOf(1, nulls(n, tupleOf(no, id))), 4)
		wantFrom(t, schemaOf(1, nulls(n, tupleOf(no, id))), schemaOf(1, nulls(n, tupleOf(no))), 21)
		wantFrom(t, schemaOf(1, nulls(n, tupleOf(id, upTo(300), nulls(api.NullFirst, no)))), schemaOf(1, nulls(n, tupleOf(no, upTo(255)))), 22)
		wantFrom(t, schemaOf(1, nulls(n, tupleOf(nulls(api.NullFirst, no)))), schemaOf(1, nulls(n, tupleOf(nulls(api.NullLast, no), no))), 3)
	}
	// that the nulls are not the same shows beside it, where it is shorter
	wantFrom(t, schemaOf(1, nulls(api.NullFirst, tupleOf(id))), schemaOf(1, nulls(api.NullLast, tupleOf(id, id))), 1)
	wantFrom(t, schemaOf(1, nulls(api.NullFirst, tupleOf(id))), schemaOf(1, tupleOf(id, id)), 1)
	wantFrom(t, schemaOf(1, tupleOf(id)), schemaOf(1, nulls(api.NullFirst, tupleOf(id, id))), 19)
	// tuples that have the difference 2 have no difference 1, and nothing within them is gone through
	wantFrom(t, schemaOf(1, nulls(api.NullFirst, tupleOf(id))), schemaOf(1, nulls(api.NullFirst, down(tupleOf(id, id)))), 19)
	wantFrom(t, schemaOf(1, nulls(api.NullFirst, tupleOf(nulls(api.NullFirst, id), no))), schemaOf(1, nulls(api.NullFirst, down(tupleOf(nulls(api.NullLast, id), id)))), 5)
	wantFrom(t, schemaOf(1, nulls(api.NullLast, tupleOf(no, id))), schemaOf(1, nulls(api.NullLast, id)), 21)
	wantFrom(t, schemaOf(1, nulls(api.NullLast, id)), schemaOf(1, nulls(api.NullLast, tupleOf(no, id))), 17)
}

// TestCollate is P17.1: texts by other collations, all of them; a text's shortest bytes hang on its own Strength.
func TestCollate(t *testing.T) {
	for _, a := range collations() {
		for _, b := range collations() {
			s, to := schemaOf(1, nulls(api.NullFirst, collated(a))), schemaOf(1, nulls(api.NullFirst, collated(b)))
			if a == b {
				wantNone(t, s, to)
				continue
			}
			wantFrom(t, s, to, 4+2*a.Strength)
		}
		wantFrom(t, schemaOf(1, collated(a)), schemaOf(1, down(collated(a))), 4+2*a.Strength)
		wantFrom(t, schemaOf(1, collated(a), is(api.Bool)), schemaOf(1, collated(a), is(api.Int)), 4+2*a.Strength+2)
	}
}

// TestNulls is P17.1: all ways in which two fields may stand with nulls, of all kinds, those that fall too.
func TestNulls(t *testing.T) {
	for k := api.Bool; k <= api.Tuple; k++ {
		for _, f := range []api.Field{is(k), down(is(k))} {
			for a := api.NeverNull; a <= api.NullLast; a++ {
				for b := api.NeverNull; b <= api.NullLast; b++ {
					s, to := schemaOf(1, nulls(a, f)), schemaOf(1, nulls(b, f))
					if a == b || a == api.NeverNull {
						wantNone(t, s, to)
						continue
					}
					wantFrom(t, s, to, 1)
					s, to = schemaOf(1, is(api.ID), down(tupleOf(nulls(a, f)))), schemaOf(1, is(api.ID), down(tupleOf(nulls(b, f))))
					wantFrom(t, s, to, 17+3)
				}
			}
		}
	}
}

// TestMost is P17.1: Most that is less, the same, and greater; what is just one byte longer shows it.
func TestMost(t *testing.T) {
	for _, k := range []api.Kind{api.Bytes, api.Name} {
		for _, a := range []int{0, 1, 2, 255, 256, 65531, 65532, 65533, 65535, 65536} {
			for _, b := range []int{0, 1, 2, 255, 256, 65531, 65532, 65533, 65535, 65536} {
				for _, f := range []api.Field{is(k), down(nulls(api.NullLast, is(k)))} {
					s, to := schemaOf(1, most(a, f)), schemaOf(1, most(b, f))
					if a <= b {
						wantNone(t, s, to)
						continue
					}
					wantFrom(t, s, to, 3+b+1) // of the longest ones there is no limit that lets them be
				}
			}
		}
		other := map[api.Kind]api.Kind{api.Bytes: api.Name, api.Name: api.Bytes}[k]
		wantFrom(t, schemaOf(1, most(9, is(k))), schemaOf(1, most(2, is(other))), 3) // of another kind it is not asked
	}
}

// TestBeside is P17.1: several differences, of which the one with the shortest key tells whether there is a witness, wherever it stands.
func TestBeside(t *testing.T) {
	l := pairs()
	for i, p := range l {
		q := l[(i*7+3)%len(l)]
		ahead, behind := shortOf(q.f), shortOf(p.f)
		least := api.MaxKey + 1
		if p.size > 0 {
			least = p.size + ahead
		}
		if q.size > 0 {
			least = min(least, q.size+behind)
		}
		s, to := schemaOf(1, p.f, q.f), schemaOf(1, p.g, q.g)
		if least > api.MaxKey {
			wantNone(t, s, to)
			continue
		}
		wantFrom(t, s, to, least)
		wantFrom(t, schemaOf(1, q.f, p.f), schemaOf(1, q.g, p.g), least)
		wantFrom(t, schemaOf(1, tupleOf(q.f, p.f)), schemaOf(1, tupleOf(q.g, p.g)), least+2)
	}
}

// shortOf is how many bytes the shortest value of a field of the pairs above has.
func shortOf(f api.Field) int {
	switch {
	case f.Nulls != api.NeverNull:
		return 1
	case f.Kind == api.Tuple:
		n := 2
		for _, g := range f.Fields {
			n += shortOf(g)
		}
		return n
	case f.Kind == api.Text:
		return 4 + 2*f.Collate.Strength
	}
	return sizes()[f.Kind]
}
