package span_test

import (
	"math/rand"
	"reflect"
	"slices"
	"strings"
	"testing"

	"dovetail/api"
	"dovetail/span"
	"dovetail/value"
)

// TestBoundsExamples is the chapter's table on Bounds.
func TestBoundsExamples(t *testing.T) {
	x, one, a := empty(t), intPart(1), namePart("a")
	wantSpan(t, x, example(), bounds(tuplePart(one), above(a)), fromTo("\x12\x81\x01\x15a\x00\x02", "\x12\x81\x02"))
	wantSpan(t, x, example(), bounds(tuplePart(one, a), belowEqual(intPart(5))), fromTo("\x12\x81\x01\x15a\x00\x01", "\x12\x81\x01\x15a\x00\x01\x22\x7e\xfb"))
	wantBad(t, x, example(), bounds(tuplePart(one, a, intPart(5))), wrong(api.ErrSpanDeep))
}

// TestBoundsWhole is DOC.md's example 5.
func TestBoundsWhole(t *testing.T) {
	x := empty(t)
	s := schemaOf(64, is(api.Int), most(8, down(is(api.Bytes))))
	wantSpan(t, x, s, bounds(tuplePart(), above(intPart(1))), openFrom("\x12\x81\x02"))
	wantSpan(t, x, s, bounds(tuplePart(intPart(1)), aboveEqual(bytesPart("b")), below(bytesPart(""))), fromTo("\x12\x81\x01\x23\x9d\xff\xfe", "\x12\x81\x01\x23\xff\xfe"))
}

// TestBoundsMakes is P16.2: one bound of each of the four makes, on a first field and on one behind a beginning; rising, falling; and what is next where bytes FF stand at the end.
func TestBoundsMakes(t *testing.T) {
	x := odd(t)
	for _, c := range []struct {
		f       api.Field
		p       api.Part
		q, next string
	}{
		{is(api.Bool), boolPart(false), "\x11\x00", "\x11\x01"},
		{down(is(api.Bool)), boolPart(false), "\x21\xff", "\x22"},
		{is(api.Int), intPart(5), "\x12\x81\x05", "\x12\x81\x06"},
		{is(api.Int), intPart(-1), "\x12\x7f\xfe", "\x12\x7f\xff"},
		{is(api.Int), intPart(255), "\x12\x81\xff", "\x12\x82"},
		{down(is(api.Int)), intPart(5), "\x22\x7e\xfa", "\x22\x7e\xfb"},
		{down(is(api.Int)), intPart(256), "\x22\x7d\xfe\xff", "\x22\x7d\xff"},
		{is(api.Bytes), bytesPart("a\xff"), "\x13a\xff\x00\x01", "\x13a\xff\x00\x02"},
		{down(is(api.Bytes)), bytesPart("\x00"), "\x23\xff\x00\xff\xfe", "\x23\xff\x00\xff\xff"},
		{is(api.ID), rawPart(api.ID, strings.Repeat("\xff", 16)), "\x14" + strings.Repeat("\xff", 16), "\x15"},
		{down(is(api.ID)), rawPart(api.ID, strings.Repeat("\x00", 16)), "\x24" + strings.Repeat("\xff", 16), "\x25"},
		{is(api.Name), namePart("a"), "\x15a\x00\x01", "\x15a\x00\x02"},
		{down(is(api.Name)), namePart(""), "\x25\xff\xfe", "\x25\xff\xff"},
		{collated(api.Collate{Strength: 1}), textPart("a"), "\x16\x21\x10\x00\x00\x00a\x00\x01", "\x16\x21\x10\x00\x00\x00a\x00\x02"},
		{down(collated(api.Collate{Strength: 1, Back: true})), textPart("b"), "\x26\xd6\xef\xfe\xff\xff\x9d\xff\xfe", "\x26\xd6\xef\xfe\xff\xff\x9d\xff\xff"},
		{tupleOf(is(api.Bool)), tuplePart(boolPart(true)), "\x17\x11\x01\x01", "\x17\x11\x01\x02"},
		{down(tupleOf(is(api.Bool))), tuplePart(boolPart(true)), "\x27\xee\xfe\xfe", "\x27\xee\xfe\xff"},
	} {
		for _, f := range []api.Field{c.f, nulls(api.NullFirst, c.f), nulls(api.NullLast, c.f)} {
			s := schemaOf(64, f, is(api.Bool))
			wantSpan(t, x, s, bounds(tuplePart(), aboveEqual(c.p)), openFrom(c.q))
			wantSpan(t, x, s, bounds(tuplePart(), above(c.p)), openFrom(c.next))
			wantSpan(t, x, s, bounds(tuplePart(), belowEqual(c.p)), fromTo("", c.next))
			wantSpan(t, x, s, bounds(tuplePart(), below(c.p)), fromTo("", c.q))
			s = schemaOf(64, nulls(api.NullFirst, is(api.Bool)), f)
			ahead := tuplePart(null())
			wantSpan(t, x, s, bounds(ahead, aboveEqual(c.p)), fromTo("\x02"+c.q, "\x03"))
			wantSpan(t, x, s, bounds(ahead, above(c.p)), fromTo("\x02"+c.next, "\x03"))
			wantSpan(t, x, s, bounds(ahead, belowEqual(c.p)), fromTo("\x02", "\x02"+c.next))
			wantSpan(t, x, s, bounds(ahead, below(c.p)), fromTo("\x02", "\x02"+c.q))
		}
	}
}

// TestBoundsNone is P16.2: without bounds it is what Prefix answers.
func TestBoundsNone(t *testing.T) {
	x := odd(t)
	s, p, _ := everyKind()
	for n := range len(s.Fields) {
		v := must(t, tuplePart(p.Items[:n]...))
		want, err := span.Prefix(x, s, v)
		for _, l := range [][]api.Bound{nil, {}, make([]api.Bound, 0, 4)} {
			if got, bad := span.Bounds(x, s, v, l); got != want || err != nil || bad != nil {
				t.Errorf("%d: %s, %s; not %s, %s", n, hexes(got), told(bad), hexes(want), told(err))
			}
		}
	}
	for _, a := range faces(p) {
		if a.call != "prefix" {
			wantBad(t, x, s, a, wrong(api.ErrSpanDeep))
		}
	}
}

// TestBoundsNull is P16.2: null as a bound stands where it stands, whether the field falls or not; where there is none it is refused.
func TestBoundsNull(t *testing.T) {
	x := odd(t)
	ahead := tuplePart(intPart(0))
	for k := api.Bool; k <= api.Tuple; k++ {
		for _, f := range []api.Field{is(k), down(is(k))} {
			for n, tag := range map[api.Nulls][2]string{api.NullFirst: {"\x02", "\x03"}, api.NullLast: {"\x7d", "\x7e"}} {
				s := schemaOf(64, is(api.Int), nulls(n, f))
				wantSpan(t, x, s, bounds(ahead, aboveEqual(null())), fromTo("\x12\x80"+tag[0], "\x12\x81"))
				wantSpan(t, x, s, bounds(ahead, above(null())), fromTo("\x12\x80"+tag[1], "\x12\x81"))
				wantSpan(t, x, s, bounds(ahead, belowEqual(null())), fromTo("\x12\x80", "\x12\x80"+tag[1]))
				wantSpan(t, x, s, bounds(ahead, below(null())), fromTo("\x12\x80", "\x12\x80"+tag[0]))
			}
			for _, b := range makes(null()) {
				wantBad(t, x, schemaOf(64, is(api.Int), f), bounds(ahead, b), wrongIn(api.ErrFitNull, 1))
			}
		}
	}
	// within a tuple that falls it is turned with all else
	s := schemaOf(64, down(tupleOf(nulls(api.NullFirst, is(api.Bool)))))
	wantSpan(t, x, s, bounds(tuplePart(), above(tuplePart(null()))), openFrom("\x27\xfd\xff"))
	wantSpan(t, x, s, bounds(tuplePart(), belowEqual(tuplePart(null()))), fromTo("", "\x27\xfd\xff"))
}

// makes are the four bounds of a value.
func makes(p api.Part) []api.Bound {
	return []api.Bound{aboveEqual(p), above(p), belowEqual(p), below(p)}
}

// TestBoundsSeveral is P16.2: of several beginnings the greatest counts, of several ends the least, however they are told.
func TestBoundsSeveral(t *testing.T) {
	x := odd(t)
	one, two, three, four := intPart(1), intPart(2), intPart(3), intPart(4)
	for _, c := range []struct {
		l    []api.Bound
		from string // behind the beginning, of which the end is the last one's, if there is none
		to   string
	}{
		{[]api.Bound{above(one), aboveEqual(two), above(null())}, "\x12\x81\x02", ""},
		{[]api.Bound{above(two), aboveEqual(two), aboveEqual(one)}, "\x12\x81\x03", ""},
		{[]api.Bound{above(two), aboveEqual(three)}, "\x12\x81\x03", ""}, // the same beginning
		{[]api.Bound{below(four), belowEqual(three), below(null())}, "", "\x02"},
		{[]api.Bound{below(four), belowEqual(two), below(three)}, "", "\x12\x81\x03"},
		{[]api.Bound{belowEqual(three), below(three)}, "", "\x12\x81\x03"},
		{[]api.Bound{above(one), belowEqual(three)}, "\x12\x81\x02", "\x12\x81\x04"},
		{[]api.Bound{above(one), below(four), aboveEqual(three), belowEqual(four)}, "\x12\x81\x03", "\x12\x81\x04"},
		{[]api.Bound{aboveEqual(two), belowEqual(two)}, "\x12\x81\x02", "\x12\x81\x03"},
	} {
		for r := range rowsOf(c.l) {
			s := schemaOf(64, nulls(api.NullFirst, is(api.Int)), nulls(api.NullFirst, is(api.Int)))
			open := api.Span{From: c.from, To: c.to, Open: c.to == ""}
			wantSpan(t, x, s, bounds(tuplePart(), r...), open)
			within := fromTo("\x02"+c.from, "\x02"+c.to)
			if c.to == "" {
				within.To = "\x03"
			}
			wantSpan(t, x, s, bounds(tuplePart(null()), r...), within)
		}
	}
}

// rowsOf are all ways to tell the elements of a list.
func rowsOf[T any](l []T) func(func([]T) bool) {
	return func(yield func([]T) bool) {
		var grow func(row, left []T) bool
		grow = func(row, left []T) bool {
			if len(left) == 0 {
				return yield(row)
			}
			for i := range left {
				if !grow(append(slices.Clone(row), left[i]), slices.Delete(slices.Clone(left), i, i+1)) {
					return false
				}
			}
			return true
		}
		grow(nil, l)
	}
}

// TestBoundsNothing is P16.2: bounds that leave nothing between them are told as they are.
func TestBoundsNothing(t *testing.T) {
	x := odd(t)
	s := schemaOf(64, is(api.Bool), down(is(api.Int)))
	ahead := tuplePart(boolPart(false))
	three, five := intPart(3), intPart(5)
	for _, c := range []struct {
		l        []api.Bound
		from, to string
	}{
		{[]api.Bound{above(five), below(five)}, "\x22\x7e\xfb", "\x22\x7e\xfa"},
		{[]api.Bound{aboveEqual(five), below(five)}, "\x22\x7e\xfa", "\x22\x7e\xfa"},
		{[]api.Bound{above(five), belowEqual(five)}, "\x22\x7e\xfb", "\x22\x7e\xfb"},
		{[]api.Bound{aboveEqual(three), belowEqual(five)}, "\x22\x7e\xfc", "\x22\x7e\xfb"}, // as it falls 3 stands behind 5
	} {
		for l := range rowsOf(c.l) {
			wantSpan(t, x, s, bounds(ahead, l...), fromTo("\x11\x00"+c.from, "\x11\x00"+c.to))
			if a, _ := bounds(ahead, l...).answer(t, x, s); !span.Empty(a) {
				t.Errorf("%s is not empty", hexes(a))
			}
		}
	}
	a, _ := bounds(ahead, aboveEqual(five), belowEqual(three)).answer(t, x, s)
	if span.Empty(a) || a != fromTo("\x11\x00\x22\x7e\xfa", "\x11\x00\x22\x7e\xfd") {
		t.Errorf("%s", hexes(a))
	}
}

// unmade are parts that may not be, and their numbers.
func unmade() map[api.Errno][]api.Part {
	deep := func(n int, p api.Part) api.Part {
		for range n {
			p = tuplePart(p)
		}
		return p
	}
	return map[api.Errno][]api.Part{
		api.ErrValueForm: {
			{Kind: 8}, {Kind: 255}, {Yes: true}, {Kind: api.Bool, Raw: "a"}, {Kind: api.Int, Num: api.Num{Below: true}}, {Kind: api.Int, Num: api.Num{Mag: "\x00"}}, {Kind: api.Int, Yes: true},
			{Kind: api.Int, Num: api.Num{Mag: "\x01" + strings.Repeat("\x00", 255)}}, {Kind: api.Bytes, Raw: strings.Repeat("a", 65537)}, {Kind: api.ID, Raw: "a"},
			{Kind: api.Name, Num: num(1)}, tuplePart(make([]api.Part, 1025)...), tuplePart(api.Part{Kind: 9}), deep(15, tuplePart(api.Part{Kind: 9})),
		},
		api.ErrValueDeep: {deep(17, intPart(1)), deep(16, tuplePart(api.Part{Kind: 9})), deep(3000, null())},
	}
}

// TestBoundsUnmade is P16.2: what value.Make says of a bound's Part, as the number, with the next field's place; ahead of what fit says of it, and of all bounds behind it.
func TestBoundsUnmade(t *testing.T) {
	x := odd(t)
	s, p, _ := everyKind()
	for code, l := range unmade() {
		for _, q := range l {
			if _, e := value.Make(q); e != code {
				t.Fatalf("%s: %d", brief(q), e)
			}
			for n := range len(s.Fields) {
				ahead := tuplePart(p.Items[:n]...)
				for _, b := range makes(q) {
					wantBad(t, x, s, bounds(ahead, b), wrongIn(code, n))
				}
				good := aboveEqual(p.Items[n])
				wantBad(t, x, s, bounds(ahead, good, above(q)), wrongIn(code, n))
				wantBad(t, x, s, bounds(ahead, good, above(q), below(rawPart(api.Name, "\xff")), good), wrongIn(code, n))
			}
			wantBad(t, x, s, bounds(p, above(q)), wrong(api.ErrSpanDeep))
		}
	}
	// the first bound with an error is told, of which sort that ever is
	form, deep := unmade()[api.ErrValueForm][0], unmade()[api.ErrValueDeep][0]
	wantBad(t, x, example(), bounds(tuplePart(), above(form), above(deep)), wrongIn(api.ErrValueForm, 0))
	wantBad(t, x, example(), bounds(tuplePart(), above(deep), above(form)), wrongIn(api.ErrValueDeep, 0))
	wantBad(t, x, example(), bounds(tuplePart(), above(null()), above(form)), wrongIn(api.ErrFitNull, 0))
	wantBad(t, x, example(), bounds(tuplePart(), above(form), above(null())), wrongIn(api.ErrValueForm, 0))
}

// TestBoundsUnfit is P16.2: what fit.Field says of a bound's value, with the next field's place ahead in the path; the first bound of which it says so.
func TestBoundsUnfit(t *testing.T) {
	x := odd(t)
	s, good, bads := unfits()
	for _, c := range bads {
		ahead := tuplePart(good[:c.place]...)
		for _, b := range makes(c.p) {
			wantBad(t, x, s, bounds(ahead, b), &c.want)
			wantBad(t, x, s, bounds(ahead, below(good[c.place]), b, above(good[c.place])), &c.want)
			wantBad(t, x, s, bounds(ahead, b, above(api.Part{Kind: 9})), &c.want)
			wantBad(t, x, s, bounds(ahead, b, above(rawPart(api.Bytes, "abcdef"))), &c.want)
		}
		for _, d := range bads {
			if d.place == c.place {
				wantBad(t, x, s, bounds(ahead, above(c.p), below(d.p)), &c.want)
			}
		}
		// bounds that leave nothing between them already are no reason not to ask the rest
		q := good[c.place]
		wantBad(t, x, s, bounds(ahead, above(q), below(q), above(c.p)), &c.want)
	}
}

// TestBoundsAny is P16.2: bounds on schemas of every shape, held against the words.
func TestBoundsAny(t *testing.T) {
	x := odd(t)
	r := rand.New(rand.NewSource(162))
	for range 1500 {
		s := anySchema(r, 1+r.Intn(4))
		n := r.Intn(len(s.Fields))
		ahead := tuplePart(anyTuple(r, s).Items[:n]...)
		for range 4 {
			check(t, x, s, bounds(ahead, anyBounds(r, s.Fields[n])...))
		}
		other := anySchema(r, 2) // most of its values are none of this field's
		check(t, x, s, bounds(ahead, append(anyBounds(r, s.Fields[n]), anyBounds(r, other.Fields[0])...)...))
	}
}

// anyBounds are some bounds on a field.
func anyBounds(r *rand.Rand, f api.Field) []api.Bound {
	l := make([]api.Bound, r.Intn(5))
	for i := range l {
		l[i] = api.Bound{Above: r.Intn(2) == 0, Equal: r.Intn(2) == 0, Part: anyPart(r, f)}
	}
	return l
}

// TestBoundsMany is R1: so many bounds that none is looked at twice over.
func TestBoundsMany(t *testing.T) {
	x := odd(t)
	l := make([]api.Bound, 100000)
	for i := range l {
		l[i] = api.Bound{Above: i%2 == 0, Equal: i%3 == 0, Part: intPart(int64(i - 50000))}
		if !l[i].Above {
			l[i].Part = intPart(int64(i + 50000))
		}
	}
	check(t, x, schemaOf(64, is(api.Int)), bounds(tuplePart(), l...))
}

// TestBoundsHandedIn is R2: the bounds, and the lists within them, are not written into, nor their spare room.
func TestBoundsHandedIn(t *testing.T) {
	x := odd(t)
	s := schemaOf(64, is(api.Bool), down(tupleOf(is(api.Bool), tupleOf(is(api.Int)))))
	s.Fields = roomy(s.Fields)
	inner := roomy([]api.Part{intPart(7)})
	items := roomy([]api.Part{boolPart(true), {Kind: api.Tuple, Items: inner}})
	l := roomy([]api.Bound{above(api.Part{Kind: api.Tuple, Items: items}), below(tuplePart(boolPart(false), tuplePart(intPart(8))))})
	ahead := tuplePart(boolPart(true))
	want := fromTo("\x11\x01\x27\xee\xfe\xe8\xed\x7e\xf8\xfe\xff", "\x11\x01\x27\xee\xff\xe8\xed\x7e\xf7\xfe\xfe")
	for range 2 {
		wantSpan(t, x, s, bounds(ahead, l...), want)
	}
	again := []api.Bound{above(tuplePart(boolPart(true), tuplePart(intPart(7)))), below(tuplePart(boolPart(false), tuplePart(intPart(8))))}
	if !reflect.DeepEqual(l, again) {
		t.Error("the bounds are changed")
	}
	wantLeft(t, l)
	wantLeft(t, items)
	wantLeft(t, inner)
	wantLeft(t, s.Fields)
	inner[0] = intPart(6) // what was handed in is not kept
	wantSpan(t, x, s, bounds(ahead, l...), fromTo("\x11\x01\x27\xee\xfe\xe8\xed\x7e\xf9\xfe\xff", want.To))
}
