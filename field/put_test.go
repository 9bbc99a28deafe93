package field_test

import (
	"math/rand"
	"reflect"
	"slices"
	"strconv"
	"strings"
	"testing"

	"dovetail/api"
	"dovetail/field"
	"dovetail/fit"
	"dovetail/schema"
	"dovetail/value"
)

// TestPutExamples is the chapter's first table.
func TestPutExamples(t *testing.T) {
	x := empty(t)
	yes, no := boolPart(true), boolPart(false)
	wantPut(t, x, is(api.Bool), yes, "\x11\x01")
	wantPut(t, x, down(is(api.Bool)), yes, "\x21\xfe")
	wantPut(t, x, is(api.Int), intPart(0), "\x12\x80")
	wantPut(t, x, is(api.Int), intPart(300), "\x12\x82\x01\x2c")
	wantPut(t, x, is(api.Int), intPart(-1), "\x12\x7f\xfe")
	wantPut(t, x, down(is(api.Int)), intPart(-1), "\x22\x80\x01")
	wantPut(t, x, is(api.Bytes), bytesPart("a\x00b"), "\x13\x61\x00\xff\x62\x00\x01")
	wantPut(t, x, down(is(api.Bytes)), bytesPart("a\x00b"), "\x23\x9e\xff\x00\x9d\xff\xfe")
	first := nulls(api.NullFirst, is(api.Bool))
	row := tuplePart(null(), no)
	wantPut(t, x, tupleOf(first, is(api.Bool)), row, "\x17\x02\x11\x00\x01")
	wantPut(t, x, down(tupleOf(first, is(api.Bool))), row, "\x27\xfd\xee\xff\xfe")
	wantPut(t, x, down(tupleOf(first, down(is(api.Bool)))), row, "\x27\xfd\xde\x00\xfe")
}

// wantPlaced: a value's bytes, where its field stands alone, and turned as often as tuples fall about it.
func wantPlaced(t *testing.T, f api.Field, p api.Part, want string) {
	t.Helper()
	x := odd(t)
	for _, in := range places() {
		all := in.ahead + string(turnedBy([]byte(want), in.turns)) + in.tail
		wantPut(t, x, in.f(f), in.p(p), all)
		wantTake(t, x, in.f(f), all, in.p(p), len(all))
	}
}

// TestPutKinds is P14.1: each kind, where the field rises and where it falls, alone and within tuples that rise, fall, and fall twice.
func TestPutKinds(t *testing.T) {
	two := collated(api.Collate{Strength: 2})
	for _, c := range []struct {
		f            api.Field
		p            api.Part
		rises, falls string
	}{
		{is(api.Bool), boolPart(false), "\x11\x00", "\x21\xff"},
		{is(api.Bool), boolPart(true), "\x11\x01", "\x21\xfe"},
		{is(api.Int), intPart(0), "\x12\x80", "\x22\x7f"},
		{is(api.Int), intPart(1), "\x12\x81\x01", "\x22\x7e\xfe"},
		{is(api.Int), intPart(-256), "\x12\x7e\xfe\xff", "\x22\x81\x01\x00"},
		{is(api.Bytes), bytesPart(""), "\x13\x00\x01", "\x23\xff\xfe"},
		{is(api.Bytes), bytesPart("\x00"), "\x13\x00\xff\x00\x01", "\x23\xff\x00\xff\xfe"},
		{is(api.Bytes), bytesPart("\xff\x01"), "\x13\xff\x01\x00\x01", "\x23\x00\xfe\xff\xfe"},
		{is(api.ID), rawPart(api.ID, "\x00\x01\xff3456789abcdef"), "\x14\x00\x01\xff3456789abcdef", "\x24\xff\xfe\x00\xcc\xcb\xca\xc9\xc8\xc7\xc6\x9e\x9d\x9c\x9b\x9a\x99"},
		{is(api.Name), namePart(""), "\x15\x00\x01", "\x25\xff\xfe"},
		{is(api.Name), namePart("a\x00\u00e9"), "\x15a\x00\xff\xc3\xa9\x00\x01", "\x25\x9e\xff\x00\x3c\x56\xff\xfe"},
		{two, textPart(""), "\x16\x22\x00\x00\x00\x00\x00\x01", "\x26\xdd\xff\xff\xff\xff\xff\xfe"},
		{two, textPart("a\x00"), "\x16\x22\x10\x00\xfb\xc0\x80\x00\x00\x00\x00\x20\x00\x20\x00\x00a\x00\xff\x00\x01", "\x26\xdd\xef\xff\x04\x3f\x7f\xff\xff\xff\xff\xdf\xff\xdf\xff\xff\x9e\xff\x00\xff\xfe"},
		{tupleOf(is(api.Bool), down(is(api.Bool))), tuplePart(boolPart(true), boolPart(true)), "\x17\x11\x01\x21\xfe\x01", "\x27\xee\xfe\xde\x01\xfe"},
	} {
		wantPlaced(t, c.f, c.p, c.rises)
		wantPlaced(t, down(c.f), c.p, c.falls)
		for _, n := range []api.Nulls{api.NullFirst, api.NullLast} { // which change nothing of what is not null
			wantPlaced(t, named("other", nulls(n, c.f)), c.p, c.rises)
			wantPlaced(t, nulls(n, down(c.f)), c.p, c.falls)
		}
	}
}

// TestPutNulls is P14.1: null has its own tag and nothing else; a field that falls does not turn it, a tuple that falls does.
func TestPutNulls(t *testing.T) {
	for k := api.Bool; k <= api.Tuple; k++ {
		wantPlaced(t, nulls(api.NullFirst, is(k)), null(), "\x02")
		wantPlaced(t, nulls(api.NullLast, is(k)), null(), "\x7d")
		wantPlaced(t, nulls(api.NullFirst, down(is(k))), null(), "\x02")
		wantPlaced(t, nulls(api.NullLast, down(is(k))), null(), "\x7d")
	}
	x := empty(t)
	f := nulls(api.NullLast, is(api.Int))
	made, _ := value.Make(null())
	list, _ := value.Of(nil)
	for _, v := range []value.Value{nil, made, list.At(0), list.At(1)} { // R3: null is nil, wherever it is from
		if s, err := field.Put(x, f, v); s != "\x7d" || err != nil {
			t.Errorf("%s, %s", hex(s), told(err))
		}
	}
}

// TestPutNumbers is P14.1: the first bytes of numbers of every length, above 0 and below.
func TestPutNumbers(t *testing.T) {
	for _, c := range []struct {
		size         int
		above, below string
	}{
		{1, "\x81", "\x7f"}, {2, "\x82", "\x7e"}, {3, "\x83", "\x7d"}, {125, "\xfd", "\x03"}, {126, "\xfe", "\x02"},
		{127, "\xff\x7f", "\x01\x80"}, {128, "\xff\x80", "\x01\x7f"}, {254, "\xff\xfe", "\x01\x01"}, {255, "\xff\xff", "\x01\x00"},
	} {
		mag := strings.Repeat("\x02", c.size)
		turned := strings.Repeat("\xfd", c.size)
		wantPlaced(t, is(api.Int), numPart(api.Num{Mag: mag}), "\x12"+c.above+mag)
		wantPlaced(t, is(api.Int), numPart(api.Num{Below: true, Mag: mag}), "\x12"+c.below+turned)
		wantPlaced(t, down(is(api.Int)), numPart(api.Num{Mag: mag}), "\x22"+string(turnedBy([]byte(c.above), 1))+turned)
		wantPlaced(t, down(is(api.Int)), numPart(api.Num{Below: true, Mag: mag}), "\x22"+string(turnedBy([]byte(c.below), 1))+mag)
	}
}

// TestPutModes is P14.1: each collation has its mode byte, and its sort keys.
func TestPutModes(t *testing.T) {
	for _, c := range []struct {
		by   api.Collate
		want string // of á, a blank and A
	}{
		{api.Collate{Strength: 1}, "\x21" + "\x10\x00\x02\x09\x10\x00\x00\x00"},
		{api.Collate{Strength: 2}, "\x22" + "\x10\x00\x02\x09\x10\x00\x00\x00" + "\x00\x20\x00\x24\x00\x20\x00\x20\x00\x00"},
		{api.Collate{Strength: 3}, "\x23" + "\x10\x00\x02\x09\x10\x00\x00\x00" + "\x00\x20\x00\x24\x00\x20\x00\x20\x00\x00" + "\x00\x02\x00\x02\x00\x02\x00\x08\x00\x00"},
		{api.Collate{Strength: 1, Shifted: true}, "\x25" + "\x10\x00\x10\x00\x00\x00"},
		{api.Collate{Strength: 2, Shifted: true}, "\x26" + "\x10\x00\x10\x00\x00\x00" + "\x00\x20\x00\x24\x00\x20\x00\x00"},
		{api.Collate{Strength: 3, Shifted: true}, "\x27" + "\x10\x00\x10\x00\x00\x00" + "\x00\x20\x00\x24\x00\x20\x00\x00" + "\x00\x02\x00\x02\x00\x08\x00\x00"},
		{api.Collate{Strength: 4, Shifted: true}, "\x28" + "\x10\x00\x10\x00\x00\x00" + "\x00\x20\x00\x24\x00\x20\x00\x00" + "\x00\x02\x00\x02\x00\x08\x00\x00" + "\xff\xff\xff\xff\x02\x09\xff\xff\x00\x00"},
		{api.Collate{Strength: 1, Back: true}, "\x29" + "\x10\x00\x02\x09\x10\x00\x00\x00"},
		{api.Collate{Strength: 2, Back: true}, "\x2a" + "\x10\x00\x02\x09\x10\x00\x00\x00" + "\x00\x20\x00\x20\x00\x24\x00\x20\x00\x00"},
		{api.Collate{Strength: 4, Shifted: true, Back: true}, "\x30" + "\x10\x00\x10\x00\x00\x00" + "\x00\x20\x00\x24\x00\x20\x00\x00" + "\x00\x02\x00\x02\x00\x08\x00\x00" + "\xff\xff\xff\xff\x02\x09\xff\xff\x00\x00"},
	} {
		for _, s := range []string{"\u00e1 A", "a\u0301 A"} {
			wantPlaced(t, collated(c.by), textPart(s), "\x16"+c.want+s+"\x00\x01")
		}
	}
	x := odd(t)
	for by, mode := range modes() {
		if s := putOf(t, x, collated(by), textPart("a")); s[1] != mode {
			t.Errorf("%+v: %x", by, s[1])
		}
		if s := putOf(t, x, down(collated(by)), textPart("a")); s[1] != 0xff-mode {
			t.Errorf("%+v: %x", by, s[1])
		}
	}
}

// TestPutTables is R2: texts weigh what the tables say that are handed in, and no others; to all else no table matters.
func TestPutTables(t *testing.T) {
	f := collated(api.Collate{Strength: 1})
	for range 3 {
		wantPut(t, odd(t), f, textPart("a"), "\x16\x21\x10\x00\x00\x00a\x00\x01")
		wantPut(t, load(t, "", "0061;[.1234.0020.0002]"), f, textPart("a"), "\x16\x21\x12\x34\x00\x00a\x00\x01")
		wantPut(t, empty(t), f, textPart("a"), "\x16\x21\xfb\xc0\x80\x61\x00\x00a\x00\x01")
		for _, x := range []string{"", "0061;[.1234.0020.0002]"} {
			wantPut(t, load(t, "", x), is(api.Name), namePart("a"), "\x15a\x00\x01")
		}
	}
}

// TestPutLong is P14.1: how long what comes out is counts for nothing; values of all the bytes that may be.
func TestPutLong(t *testing.T) {
	x := load(t, "", "0061;[.1000.0020.0002]")
	noughts, letters := strings.Repeat("\x00", 65536), strings.Repeat("a", 65536)
	wantPut(t, x, is(api.Bytes), bytesPart(noughts), "\x13"+strings.Repeat("\x00\xff", 65536)+"\x00\x01")
	wantPut(t, x, down(is(api.Name)), namePart(noughts), "\x25"+strings.Repeat("\xff\x00", 65536)+"\xff\xfe")
	wantPut(t, x, collated(api.Collate{Strength: 2}), textPart(letters), "\x16\x22"+strings.Repeat("\x10\x00", 65536)+"\x00\x00"+strings.Repeat("\x00\x20", 65536)+"\x00\x00"+letters+"\x00\x01")

	f, p, want := down(tupleOf()), tuplePart(), "\x27"
	for i := range 63 {
		f.Fields = append(f.Fields, named("f"+strconv.Itoa(i), is(api.Bytes)))
		p.Items = append(p.Items, bytesPart(noughts[i:]))
		want += "\xec" + strings.Repeat("\xff\x00", 65536-i) + "\xff\xfe"
	}
	wantPut(t, x, f, p, want+"\xfe")
	wantTake(t, x, f, want+"\xfe", p, len(want)+1)
}

// TestPutAny is P14.1: fields of every shape, against the words.
func TestPutAny(t *testing.T) {
	x := odd(t)
	r := rand.New(rand.NewSource(141))
	for range 5000 {
		f := anyField(r, "a", 1+r.Intn(5))
		for range 4 {
			putOf(t, x, f, anyPart(r, f))
		}
	}
}

// TestPutDeep is P14.1: sixteen fields within one another, of which any fall: a byte is turned as often as that is.
func TestPutDeep(t *testing.T) {
	x := odd(t)
	r := rand.New(rand.NewSource(142))
	for falling := range 17 {
		for range 5 {
			f, p := nulls(api.NullLast, is(api.Text)), textPart("a\x00")
			if r.Intn(3) == 0 {
				p = null()
			}
			falls := r.Perm(16)[:falling]
			for i := range 16 {
				if i > 0 {
					f, p = tupleOf(f), tuplePart(p)
				}
				f.Down = slices.Contains(falls, i)
			}
			s := putOf(t, x, f, p)
			wantTake(t, x, f, s, p, len(s))
			wantFault(t, refusedPut(t, x, tupleOf(f), tuplePart(p)), api.ErrArg, api.ErrSchemaDeep)
		}
	}
}

// wantFault: a Fault has this number, comes of this one (0: of none), and has this path.
func wantFault(t testing.TB, f *api.Fault, code, why api.Errno, path ...int) {
	t.Helper()
	if f.Code != code || !slices.Equal(f.Path, path) || (f.Why == nil) != (why == api.OK) || f.Why != nil && !f.Why.(interface{ Is(error) bool }).Is(why) {
		t.Errorf("%s, not error %d path %v why %d", told(f), code, path, why)
	}
}

// wrongFields are some of every sort that may not be, with what they are refused by.
func wrongFields() []struct {
	f   api.Field
	why api.Errno
} {
	deep := is(api.Bool)
	for range 16 {
		deep = tupleOf(deep)
	}
	many := tupleOf()
	for i := range 64 {
		many.Fields = append(many.Fields, named("f"+strconv.Itoa(i), is(api.Bool)))
	}
	twice := tupleOf(is(api.Bool), is(api.Int))
	twice.Fields[1].Name = "a"
	return []struct {
		f   api.Field
		why api.Errno
	}{
		{api.Field{}, api.ErrSchemaName}, {named("A", is(api.Int)), api.ErrSchemaName}, {named("", is(api.Text)), api.ErrSchemaName},
		{is(api.Null), api.ErrSchemaRange}, {is(8), api.ErrSchemaRange}, {nulls(3, is(api.Bool)), api.ErrSchemaRange},
		{collated(api.Collate{}), api.ErrSchemaRange}, {collated(api.Collate{Strength: 4}), api.ErrSchemaRange}, {collated(api.Collate{Strength: 5, Shifted: true}), api.ErrSchemaRange},
		{most(-1, is(api.Bytes)), api.ErrSchemaRange}, {most(65537, is(api.Name)), api.ErrSchemaRange}, {most(1, is(api.ID)), api.ErrSchemaRange},
		{bounded(num(1), num(0)), api.ErrSchemaRange}, {bounded(num(0), api.Num{Mag: "\x00"}), api.ErrSchemaRange},
		{tupleOf(), api.ErrSchemaEmpty}, {tupleOf(is(api.Bool), tupleOf()), api.ErrSchemaEmpty},
		{twice, api.ErrSchemaTwice}, {many, api.ErrSchemaMany}, {deep, api.ErrSchemaDeep},
	}
}

// TestPutNil is R5: nil tables come first, also where no text is to be weighed, and whatever else is wrong.
func TestPutNil(t *testing.T) {
	for k := api.Bool; k <= api.Tuple; k++ {
		for _, f := range []api.Field{is(k), nulls(api.NullFirst, is(k)), down(is(k)), nulls(9, is(k)), named("A", is(k)), {}} {
			for _, p := range []api.Part{null(), boolPart(true), intPart(1), textPart("a"), textPart("\xff"), tuplePart(), tuplePart(intPart(1))} {
				bad := refusedPut(t, nil, f, p)
				wantFault(t, bad, api.ErrNil, api.OK)
				if bad.At != 0 {
					t.Error(told(bad))
				}
			}
		}
	}
}

// TestPutArg is R5: a field that may not be comes next, ahead of what is wrong with the value; its Why is what schema.Check answers.
func TestPutArg(t *testing.T) {
	x := odd(t)
	for _, c := range wrongFields() {
		for _, p := range []api.Part{null(), boolPart(true), intPart(1), textPart("\xff"), tuplePart(), tuplePart(boolPart(true))} {
			bad := refusedPut(t, x, c.f, p)
			wantFault(t, bad, api.ErrArg, c.why)
			if want := schema.Check(api.Schema{Limit: 65536, Fields: []api.Field{c.f}}); bad.At != 0 || !sameError(bad.Why, want) {
				t.Errorf("%s; %s: %s, not %s", brief(c.f), brief(p), told(bad), told(want))
			}
		}
	}
}

// refusedByFit: Put is refused with what fit.Field says, as it is.
func refusedByFit(t *testing.T, f api.Field, p api.Part) *api.Fault {
	t.Helper()
	bad := refusedPut(t, odd(t), f, p)
	if want := fit.Field(f, must(t, p)); !sameError(bad, want) {
		t.Fatalf("%s; %s: %s, not %s", brief(f), brief(p), told(bad), told(want))
	}
	return bad
}

// TestPutUnfit is P14.1: what fit.Field says of a value that is none of the field's, with its At, its Path and its Why.
func TestPutUnfit(t *testing.T) {
	for _, c := range []struct {
		f         api.Field
		p         api.Part
		code, why api.Errno
		at        int
	}{
		{is(api.Bool), null(), api.ErrFitNull, 0, 0},
		{is(api.Bool), intPart(1), api.ErrFitKind, api.ErrKind, 0},
		{is(api.Name), textPart("a"), api.ErrFitKind, api.ErrKind, 0},
		{nulls(api.NullFirst, is(api.ID)), bytesPart("0123456789abcdef"), api.ErrFitKind, api.ErrKind, 0},
		{bounded(num(-1), num(1)), intPart(2), api.ErrFitRange, 0, 0},
		{bounded(num(-1), num(1)), intPart(-2), api.ErrFitRange, 0, 0},
		{most(1, is(api.Bytes)), bytesPart("ab"), api.ErrFitLong, 0, 0},
		{most(1, is(api.Name)), namePart("a\xff"), api.ErrFitLong, 0, 0},
		{most(2, is(api.Name)), namePart("a\xff"), api.ErrFitUtf, api.ErrUtfForm, 1},
		{is(api.Text), textPart("ab\xe2\x82"), api.ErrFitUtf, api.ErrUtfForm, 2},
		{tupleOf(is(api.Int), is(api.Int)), tuplePart(intPart(1)), api.ErrFitCount, 0, 0},
		{tupleOf(is(api.Int)), tuplePart(), api.ErrFitCount, 0, 0},
	} {
		for _, in := range places() {
			for _, f := range []api.Field{c.f, down(c.f)} {
				bad := refusedByFit(t, in.f(f), in.p(c.p))
				if bad.Code != c.code || bad.At != c.at || !slices.Equal(bad.Path, in.path) {
					t.Errorf("%s; %s: %s", brief(f), brief(c.p), told(bad))
				}
				if c.why == api.OK && bad.Why != nil || c.why != api.OK && !reflect.DeepEqual(bad.Why, why(c.why)) {
					t.Errorf("%s; %s: %s", brief(f), brief(c.p), told(bad))
				}
			}
		}
	}
	// the first of several
	f := tupleOf(is(api.Bool), tupleOf(is(api.Int), most(1, is(api.Bytes))))
	bad := refusedByFit(t, f, tuplePart(boolPart(true), tuplePart(intPart(1), bytesPart("ab"))))
	wantFault(t, bad, api.ErrFitLong, api.OK, 1, 1)
	bad = refusedByFit(t, f, tuplePart(null(), tuplePart(intPart(1), bytesPart("ab"))))
	wantFault(t, bad, api.ErrFitNull, api.OK, 0)
}

// why is what an error of fit comes of: a Fault of value's, or the number itself.
func why(n api.Errno) error {
	if n == api.ErrKind {
		return &api.Fault{Code: n}
	}
	return n
}

// TestPutTwice is R2: what a call answers hangs on its arguments; what is handed in is not written into, and each Fault is another one.
func TestPutTwice(t *testing.T) {
	x := odd(t)
	spare := make([]api.Field, 2, 4)
	spare[0], spare[1] = nulls(api.NullFirst, is(api.Int)), named("b", down(is(api.Text)))
	f := down(api.Field{Name: "a", Kind: api.Tuple, Fields: spare})
	v := must(t, tuplePart(null(), textPart("a")))
	first, _ := field.Put(x, f, v)
	kept := slices.Clone(spare[:4])
	for range 3 {
		if s, err := field.Put(x, f, v); s != first || err != nil {
			t.Errorf("%s, %s; not %s", hex(s), told(err), hex(first))
		}
		if _, _, err := field.Take(x, f, first); err != nil {
			t.Error(told(err))
		}
	}
	if !reflect.DeepEqual(spare[:4], kept) || !reflect.DeepEqual(value.Tell(v), tuplePart(null(), textPart("a"))) {
		t.Errorf("%+v, %+v", spare[:4], value.Tell(v))
	}
	for _, p := range []api.Part{null(), tuplePart(boolPart(true), null())} {
		one, two := refusedPut(t, x, f, p), refusedPut(t, x, f, p)
		if one == two || !sameError(one, two) {
			t.Errorf("%s, %s", told(one), told(two))
		}
		for i := range one.Path {
			one.Path[i] = 9
		}
		if slices.Contains(two.Path, 9) {
			t.Error("one path in two Faults")
		}
	}
	if one, two := refusedPut(t, nil, f, null()), refusedPut(t, nil, f, null()); one == two {
		t.Error("one Fault twice")
	}
	if one, two := refusedPut(t, x, api.Field{}, null()), refusedPut(t, x, api.Field{}, null()); one == two || one.Why == two.Why {
		t.Error("one Fault twice")
	}
}
