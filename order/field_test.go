package order

import (
	"math/rand"
	"strings"
	"testing"

	"dovetail/api"
	"dovetail/value"
)

// TestFieldExamples is the chapter's table on Field.
func TestFieldExamples(t *testing.T) {
	x := empty(t)
	yes, no := boolPart(true), boolPart(false)
	wantField(t, x, is(api.Bool), no, yes, -1)
	wantField(t, x, down(is(api.Bool)), no, yes, 1)
	falls := down(nulls(api.NullFirst, is(api.Int)))
	wantField(t, x, falls, null(), intPart(5), -1)
	wantField(t, x, falls, intPart(7), intPart(5), -1)
	last := nulls(api.NullLast, is(api.Int))
	wantField(t, x, last, null(), intPart(5), 1)
	wantField(t, x, last, null(), null(), 0)
	wantFault(t, refusedField(t, x, is(api.Int), null(), intPart(5)), api.ErrFitNull, api.OK)
	wantField(t, x, is(api.Bytes), rawPart(api.Bytes, "\x00"), rawPart(api.Bytes, ""), 1)
	wantField(t, x, is(api.Bytes), rawPart(api.Bytes, "\xff"), rawPart(api.Bytes, "\x7f\x00"), 1)
	f := down(tupleField("a", lettered(nulls(api.NullFirst, is(api.Int)), down(is(api.Int)))...))
	wantField(t, x, f, tuplePart(null(), intPart(1)), tuplePart(intPart(3), intPart(1)), 1)
	wantField(t, x, f, tuplePart(intPart(3), intPart(1)), tuplePart(intPart(3), intPart(2)), -1)
}

// wantRising: each value stands ahead of all behind it by the field, and is itself; and the other way round, where the field falls.
func wantRising(t *testing.T, f api.Field, rising ...api.Part) {
	t.Helper()
	x := odd(t)
	for i, a := range rising {
		wantField(t, x, f, a, a, 0)
		wantField(t, x, down(f), a, a, 0)
		for _, b := range rising[i+1:] {
			wantField(t, x, f, a, b, -1)
			wantField(t, x, down(f), a, b, 1)
		}
	}
}

// raws are values of a kind with these bytes.
func raws(k api.Kind, all ...string) []api.Part {
	var l []api.Part
	for _, s := range all {
		l = append(l, rawPart(k, s))
	}
	return l
}

// risingNumbers are numbers of every size that counts: below 0, 0, and of up to 255 bytes.
func risingNumbers() []api.Part {
	above := []string{"\x01", "\x02", "\x7f", "\x80", "\xfe", "\xff", "\x01\x00", "\x01\x01", "\x01\xff", "\x02\x00", "\xff\x00", "\xff\xff", "\x01\x00\x00",
		strings.Repeat("\xff", 8), "\x01" + strings.Repeat("\x00", 8)}
	for _, size := range []int{126, 127, 128, 254, 255} {
		for _, s := range []string{"\x01" + strings.Repeat("\x00", size-1), "\x01" + strings.Repeat("\x00", size-2) + "\x01", "\x7f" + strings.Repeat("\xff", size-1), "\x80" + strings.Repeat("\x00", size-1), strings.Repeat("\xff", size)} {
			above = append(above, s)
		}
	}
	l := []api.Part{intPart(0)}
	for _, s := range above {
		l = append([]api.Part{numPart(api.Num{Below: true, Mag: s})}, l...)
		l = append(l, numPart(api.Num{Mag: s}))
	}
	return l
}

func risingBytes() []api.Part {
	return raws(api.Bytes, "", "\x00", "\x00\x00", "\x00\x01", "\x00\xff", "\x01", "a", "a\x00", "aa", "b",
		"\x7e\xff", "\x7f", "\x7f\x00", "\x7f\x80", "\x80", "\xc3\xa1", "\xff", "\xff\x00", "\xff\xff", strings.Repeat("\xff", 65536))
}

func risingIDs() []api.Part {
	behind, ahead := strings.Repeat("\xff", 15), strings.Repeat("\xff", 15)
	return raws(api.ID, strings.Repeat("\x00", 16), "\x00"+behind, "\x01"+strings.Repeat("\x00", 15), "a"+behind, "\x7f"+behind, "\x80"+behind,
		ahead+"\x00", ahead+"\x7f", ahead+"\x80", ahead+"\xff")
}

// risingNames stand by their bytes, and not by what texts so spelt weigh.
func risingNames() []api.Part {
	return raws(api.Name, "", "\x00", " ", "-", "A", "B", "a", "a\x00", "aa", "ab", "a\u0301", "b", "\u007f", "\u0080", "\u00e1", "\u0323", "\u07ff", "\u0800", "\uffff", "\U00010000", "\U0010ffff")
}

// TestKinds is P13.1, of each kind but texts and tuples: fields that rise, and fields that fall.
func TestKinds(t *testing.T) {
	wantRising(t, is(api.Bool), boolPart(false), boolPart(true))
	wantRising(t, is(api.Int), risingNumbers()...)
	wantRising(t, is(api.Bytes), risingBytes()...)
	wantRising(t, is(api.ID), risingIDs()...)
	wantRising(t, is(api.Name), risingNames()...)
}

// TestBounds is P13.1: what else a field says of its values bears upon which it has, not upon how they stand.
func TestBounds(t *testing.T) {
	x := empty(t)
	f := is(api.Int)
	f.Bounded, f.Low, f.High = true, num(-300), num(300)
	for _, n := range []api.Nulls{api.NeverNull, api.NullFirst, api.NullLast} {
		f = nulls(n, named("other", f))
		wantField(t, x, f, intPart(-300), intPart(300), -1)
		wantField(t, x, down(f), intPart(-300), intPart(300), 1)
	}
	wantFault(t, refusedField(t, x, f, intPart(-301), intPart(300)), api.ErrFitRange, api.OK)
	wantFault(t, refusedField(t, x, f, intPart(-300), intPart(301)), api.ErrFitRange, api.OK)
}

// TestNulls is P13.1: both null, and one of them, by NullFirst and NullLast, in fields that fall and in those that don't.
func TestNulls(t *testing.T) {
	x := odd(t)
	values := map[api.Kind][]api.Part{
		api.Bool:  {boolPart(false), boolPart(true)},
		api.Int:   risingNumbers(),
		api.Bytes: risingBytes(),
		api.ID:    risingIDs(),
		api.Name:  risingNames(),
		api.Text:  {textPart(""), textPart("a"), textPart("\u0323")},
		api.Tuple: {tuplePart(intPart(-9)), tuplePart(intPart(0))},
	}
	for k := api.Bool; k <= api.Tuple; k++ {
		for _, f := range []api.Field{is(k), down(is(k))} {
			wantField(t, x, nulls(api.NullFirst, f), null(), null(), 0)
			wantField(t, x, nulls(api.NullLast, f), null(), null(), 0)
			wantFault(t, refusedField(t, x, f, null(), null()), api.ErrFitNull, api.OK)
			for _, p := range values[k] {
				wantField(t, x, nulls(api.NullFirst, f), null(), p, -1)
				wantField(t, x, nulls(api.NullLast, f), null(), p, 1)
				wantFault(t, refusedField(t, x, f, null(), p), api.ErrFitNull, api.OK)
				wantFault(t, refusedField(t, x, f, p, null()), api.ErrFitNull, api.OK)
			}
		}
	}
}

// wantTexts: two texts stand so by a collation, and the other way round where the field falls.
func wantTexts(t *testing.T, c api.Collate, a, b string, want int) {
	t.Helper()
	x := odd(t)
	wantField(t, x, collated(c), textPart(a), textPart(b), want)
	wantField(t, x, down(collated(c)), textPart(a), textPart(b), -want)
}

// TestTexts is P13.1, of texts that one level alone tells apart: ahead of it they stand by their bytes, which say the contrary.
func TestTexts(t *testing.T) {
	by := func(strength int) api.Collate { return api.Collate{Strength: strength} }
	for strength := 1; strength <= 3; strength++ {
		wantTexts(t, by(strength), "ab", "b", -1)
		wantTexts(t, by(strength), "b", "\u00e1", 1) // its bytes stand behind
		wantTexts(t, by(strength), "a", "aa", -1)    // a beginning
		wantTexts(t, by(strength), "", "a", -1)
		wantTexts(t, by(strength), "", "", 0)
	}
	wantTexts(t, by(1), "a\u0301\u0302", "a\u0302", -1)
	wantTexts(t, by(1), "a\u0302\u0301", "a\u0302", 1)
	wantTexts(t, by(1), "a\u0301", "\u00e1", -1)
	wantTexts(t, by(1), "a\u0302", "\u00e1", -1) // by their bytes
	wantTexts(t, by(2), "a\u0302", "\u00e1", 1)  // by the second level
	wantTexts(t, by(2), "a", "A", 1)             // by their bytes
	wantTexts(t, by(3), "a", "A", -1)            // by the third level

	back := func(strength int) api.Collate { return api.Collate{Strength: strength, Back: true} }
	wantTexts(t, by(2), "aa\u0301", "a\u0301a", -1)
	wantTexts(t, back(2), "aa\u0301", "a\u0301a", 1)
	wantTexts(t, by(1), "aa\u0301", "a\u0301a", -1) // by their bytes
	wantTexts(t, back(1), "aa\u0301", "a\u0301a", -1)

	shifted := func(strength int) api.Collate { return api.Collate{Strength: strength, Shifted: true} }
	wantTexts(t, by(3), "a-b", "aab", -1)
	wantTexts(t, shifted(3), "a-b", "aab", 1)
	wantTexts(t, by(3), "a~b", "ab", -1)
	wantTexts(t, shifted(3), "a~b", "ab", 1)  // by their bytes
	wantTexts(t, shifted(4), "a~b", "ab", -1) // by the fourth level
	wantTexts(t, shifted(3), "a\u0323", "a~", 1)
	wantTexts(t, shifted(4), "a\u0323", "a~", -1)
	wantTexts(t, shifted(3), "a", "\u0323-", 1) // by the first level: of the second nothing is left there
	wantTexts(t, shifted(3), "-\u0301a", "A", -1)
}

// TestTextsAlike is P13.1: texts that the tables hold for the same, by every collation, though their bytes differ; they stand by these, and are the same only where they are spelt alike.
func TestTextsAlike(t *testing.T) {
	for _, c := range collations() {
		wantTexts(t, c, "a\u0301", "\u00e1", -1) // canonically the same
		wantTexts(t, c, "ba\u0301", "b\u00e1", -1)
		wantTexts(t, c, "a\u0323\u0301", "\u00e1\u0323", -1)
		wantTexts(t, c, "a\u0301\u0323", "a\u0323\u0301", -1)
		wantTexts(t, c, "a", "a\u0323", -1) // by what weighs nothing
		wantTexts(t, c, "a\u0323", "a\u0323\u0323", -1)
		wantTexts(t, c, "", "\u0323", -1)
		wantTexts(t, c, "a\u0301", "a\u0301", 0)
		wantTexts(t, c, "\u0323", "\u0323", 0)
		wantTexts(t, c, "\u00e1", "b", -1) // and it is no order of bytes
	}
}

// TestTextsByKeys is P13.1: all pairs of texts, by each collation, stand as their sort keys do, and then as their bytes.
func TestTextsByKeys(t *testing.T) {
	x := odd(t)
	for _, c := range collations() {
		for _, a := range texts() {
			for _, b := range texts() {
				first, _ := x.Key(c, a)
				second, _ := x.Key(c, b)
				want := strings.Compare(first, second)
				if want == 0 {
					want = strings.Compare(a, b)
				}
				wantTexts(t, c, a, b, want)
			}
		}
	}
}

// TestTables is R2: texts stand as the tables that are handed in have them, and as no others.
func TestTables(t *testing.T) {
	a, b := textPart("a"), textPart("b")
	f := is(api.Text)
	rising := load(t, "", "0061;[.1000.0020.0002]\n0062;[.1001.0020.0002]")
	falling := load(t, "", "0061;[.1001.0020.0002]\n0062;[.1000.0020.0002]")
	for range 3 {
		wantField(t, rising, f, a, b, -1)
		wantField(t, falling, f, a, b, 1)
		wantField(t, empty(t), f, a, b, -1)
	}
	for _, k := range []api.Kind{api.Name, api.Bytes} {
		wantField(t, falling, is(k), rawPart(k, "a"), rawPart(k, "b"), -1)
	}
}

// TestTuples is P13.1: the first items that are not the same say it, each by its own field; fields that fall within fields that fall, nulls within what falls.
func TestTuples(t *testing.T) {
	x := odd(t)
	one, two := intPart(1), intPart(2)
	flat := tupleField("a", lettered(is(api.Int), down(is(api.Int)), is(api.Int))...)
	wantField(t, x, flat, tuplePart(one, one, one), tuplePart(one, one, one), 0)
	wantField(t, x, flat, tuplePart(one, one, one), tuplePart(one, one, two), -1)
	wantField(t, x, flat, tuplePart(one, one, two), tuplePart(one, two, one), 1)
	wantField(t, x, flat, tuplePart(one, two, two), tuplePart(two, one, one), -1)
	wantField(t, x, down(flat), tuplePart(one, one, one), tuplePart(one, one, one), 0)
	wantField(t, x, down(flat), tuplePart(one, one, one), tuplePart(one, one, two), 1)
	wantField(t, x, down(flat), tuplePart(one, one, two), tuplePart(one, two, one), -1)
	wantField(t, x, down(flat), tuplePart(one, two, two), tuplePart(two, one, one), 1)

	for _, n := range []struct {
		nulls api.Nulls
		want  int
	}{{api.NullFirst, -1}, {api.NullLast, 1}} {
		for _, inner := range []api.Field{nulls(n.nulls, is(api.Int)), down(nulls(n.nulls, is(api.Int)))} {
			within := tupleField("a", inner)
			a, b := tuplePart(null()), tuplePart(one)
			wantField(t, x, within, a, b, n.want)
			wantField(t, x, down(within), a, b, -n.want) // null too is the other way round
			wantField(t, x, within, a, a, 0)
			wantField(t, x, down(within), a, a, 0)
			twice := tupleField("a", down(within))
			wantField(t, x, twice, tuplePart(a), tuplePart(b), -n.want)
			wantField(t, x, down(twice), tuplePart(a), tuplePart(b), n.want)
			// but that of a field itself is not
			wantField(t, x, nulls(n.nulls, within), null(), a, n.want)
			wantField(t, x, down(nulls(n.nulls, within)), null(), a, n.want)
		}
	}
	// one tuple null within another one: its own items say nothing
	deep := tupleField("a", lettered(down(nulls(api.NullLast, flat)), is(api.Int))...)
	wantField(t, x, deep, tuplePart(null(), one), tuplePart(tuplePart(one, one, one), two), 1)
	wantField(t, x, deep, tuplePart(null(), one), tuplePart(null(), two), -1)
	wantField(t, x, down(deep), tuplePart(null(), one), tuplePart(tuplePart(one, one, one), two), -1)
	wantField(t, x, down(deep), tuplePart(null(), one), tuplePart(null(), two), 1)
}

// TestTurnedDeep is P13.1: sixteen fields within one another, of which any fall.
func TestTurnedDeep(t *testing.T) {
	x := odd(t)
	r := rand.New(rand.NewSource(131))
	for falling := range 17 {
		for range 5 {
			falls := r.Perm(16)[:falling]
			f, a, b := nulls(api.NullFirst, is(api.Text)), textPart("a"), textPart("b")
			nothing := null()
			want, first := -1, -1
			for i := range 16 {
				if i > 0 {
					f, a, b, nothing = tupleField("a", f), tuplePart(a), tuplePart(b), tuplePart(nothing)
				}
				for _, k := range falls {
					if k == i {
						f.Down = true
						want = -want
						if i > 0 {
							first = -first
						}
					}
				}
			}
			wantField(t, x, f, a, b, want)
			wantField(t, x, f, nothing, b, first)
			wantField(t, x, f, a, a, 0)
			wantField(t, x, f, nothing, nothing, 0)
		}
	}
}

// TestFieldAny is P13.1: fields of every shape, against the words.
func TestFieldAny(t *testing.T) {
	x := odd(t)
	r := rand.New(rand.NewSource(132))
	for range 4000 {
		f := anyField(r, "a", 1+r.Intn(4))
		p := anyPart(r, f)
		for range 6 {
			checkField(t, x, f, p, anyPart(r, f))
			checkField(t, x, f, p, near(r, f, p))
		}
	}
}

// TestFieldNil is R5: nil tables come first, also where no text is to be weighed, and whatever else is wrong.
func TestFieldNil(t *testing.T) {
	for k := api.Bool; k <= api.Tuple; k++ {
		for _, f := range []api.Field{is(k), nulls(api.NullFirst, is(k)), nulls(9, is(k)), named("A", is(k)), {}} {
			for _, p := range []api.Part{null(), boolPart(true), intPart(1), textPart("a"), textPart("\xff"), tuplePart(), tuplePart(intPart(1))} {
				bad := refusedField(t, nil, f, p, p)
				wantFault(t, bad, api.ErrNil, api.OK)
			}
		}
	}
}

// TestFieldArg is R5: a field that may not be, ahead of what is wrong with the values, with what schema.Check says of it.
func TestFieldArg(t *testing.T) {
	x := odd(t)
	low := is(api.Int)
	low.Bounded, low.Low, low.High = true, num(1), num(-1)
	deep := is(api.Bool)
	for range 16 {
		deep = tupleField("a", deep)
	}
	wrongs := []struct {
		f    api.Field
		why  api.Errno
		path []int
	}{
		{api.Field{}, api.ErrSchemaName, []int{0}},
		{named("A", is(api.Bool)), api.ErrSchemaName, []int{0}},
		{api.Field{Name: "a"}, api.ErrSchemaRange, []int{0}},
		{api.Field{Name: "a", Kind: 8}, api.ErrSchemaRange, []int{0}},
		{nulls(3, is(api.Bool)), api.ErrSchemaRange, []int{0}},
		{low, api.ErrSchemaRange, []int{0}},
		{collated(api.Collate{}), api.ErrSchemaRange, []int{0}},
		{collated(api.Collate{Strength: 4}), api.ErrSchemaRange, []int{0}},
		{api.Field{Name: "a", Kind: api.Bytes, Most: 65537}, api.ErrSchemaRange, []int{0}},
		{tupleField("a"), api.ErrSchemaEmpty, []int{0}},
		{tupleField("a", is(api.Bool), is(api.Bool)), api.ErrSchemaTwice, []int{0, 1}},
		{tupleField("a", is(api.Bool), named("b", low)), api.ErrSchemaRange, []int{0, 1}},
		{deep, api.ErrSchemaDeep, make([]int, 17)},
	}
	for _, w := range wrongs {
		for _, a := range []api.Part{null(), boolPart(true), intPart(1), textPart("\xff"), tuplePart()} {
			for _, b := range []api.Part{a, null(), intPart(2)} {
				bad := refusedField(t, x, w.f, a, b)
				wantFault(t, bad, api.ErrArg, w.why)
				if why, is := bad.Why.(*api.Fault); is {
					wantFault(t, why, w.why, api.OK, w.path...)
				} else {
					t.Errorf("%s: comes of no Fault", told(bad))
				}
			}
		}
	}
}

// TestFieldUnfit is P13.1: what fit.Field says of the first value, as it is, ahead of what it says of the second.
func TestFieldUnfit(t *testing.T) {
	x := odd(t)
	text, kind, none := textPart("ab\xff"), boolPart(true), null()
	good := textPart("a")
	f := is(api.Text)
	first := func(a, b api.Part) *api.Fault { return refusedField(t, x, f, a, b) }
	for _, b := range []api.Part{good, text, kind, none} {
		bad := first(text, b)
		wantFault(t, bad, api.ErrFitUtf, api.ErrUtfForm)
		if bad.At != 2 {
			t.Errorf("%s, not at 2", told(bad))
		}
		wantFault(t, first(kind, b), api.ErrFitKind, api.ErrKind)
		wantFault(t, first(none, b), api.ErrFitNull, api.OK)
	}
	wantFault(t, first(good, text), api.ErrFitUtf, api.ErrUtfForm)
	wantFault(t, first(good, kind), api.ErrFitKind, api.ErrKind)
	wantFault(t, first(good, none), api.ErrFitNull, api.OK)

	short := is(api.Name)
	short.Most = 1
	f = tupleField("a", lettered(is(api.Int), tupleField("", lettered(is(api.Bool), short)...))...)
	right := tuplePart(intPart(1), tuplePart(boolPart(true), rawPart(api.Name, "a")))
	long := tuplePart(intPart(1), tuplePart(boolPart(true), rawPart(api.Name, "ab")))
	few := tuplePart(intPart(2), tuplePart(boolPart(true)))
	wantFault(t, first(long, few), api.ErrFitLong, api.OK, 1, 1)
	wantFault(t, first(few, long), api.ErrFitCount, api.OK, 1)
	wantFault(t, first(right, long), api.ErrFitLong, api.OK, 1, 1)
	// also where the items ahead of it would say the order already
	wantFault(t, first(right, few), api.ErrFitCount, api.OK, 1)
	wantFault(t, first(right, tuplePart(intPart(2), boolPart(true))), api.ErrFitKind, api.ErrKind, 1)
	wantFault(t, first(right, tuplePart(intPart(2))), api.ErrFitCount, api.OK)
	wantFault(t, first(right, tuplePart(intPart(2), tuplePart(boolPart(true), rawPart(api.Name, "a")), null())), api.ErrFitCount, api.OK)
	wantFault(t, first(nullIn(right), right), api.ErrFitNull, api.OK, 0)
	// and where null would say it
	f = nulls(api.NullFirst, f)
	wantFault(t, first(null(), few), api.ErrFitCount, api.OK, 1)
	wantFault(t, first(few, null()), api.ErrFitCount, api.OK, 1)
}

// nullIn is a tuple whose first item is null.
func nullIn(p api.Part) api.Part { return tuplePart(append([]api.Part{null()}, p.Items[1:]...)...) }

// TestNullValues is R3: null is nil, wherever it is from.
func TestNullValues(t *testing.T) {
	x := empty(t)
	made, _ := value.Make(null())
	list, _ := value.Of(nil)
	five := must(t, intPart(5))
	f := nulls(api.NullLast, is(api.Int))
	for _, v := range []value.Value{nil, made, list.At(0), list.At(1)} {
		if n, err := Field(x, f, v, five); n != 1 || err != nil {
			t.Errorf("%d, %s", n, told(err))
		}
		if n, err := Field(x, f, nil, v); n != 0 || err != nil {
			t.Errorf("%d, %s", n, told(err))
		}
	}
}
