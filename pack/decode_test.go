package pack_test

import (
	"errors"
	"math/rand"
	"reflect"
	"slices"
	"strings"
	"testing"

	"dovetail/api"
	"dovetail/field"
	"dovetail/pack"
	"dovetail/schema"
	"dovetail/value"
)

// TestDecodeExamples is the chapter's table on Decode.
func TestDecodeExamples(t *testing.T) {
	x := empty(t)
	wantTuple(t, x, example(8), "\x11\x01\x22\x80\x01", tuplePart(boolPart(true), intPart(-1)))
	wantNoKey(t, x, example(8), "\x11\x01\x22\x80\x01\x00", wrong(api.ErrPackMore, 5))
	wantNoKey(t, x, example(8), "\x11\x01\x22", inField(1, 2, api.Fault{Code: api.ErrFieldShort, At: 1}))
	wantNoKey(t, x, example(8), "\x11\x01\x12\x80", inField(1, 2, api.Fault{Code: api.ErrFieldTag}))
	wantNoKey(t, x, example(4), "\x11\x01\x22\x80\x01", wrong(api.ErrPackLong, 4))
	wantNoKey(t, x, example(0), "\x11\x01\x22\x80\x01", &api.Fault{Code: api.ErrArg, Why: wrong(api.ErrSchemaRange, 0)})
	wantNoKey(t, x, schemaOf(8), "", &api.Fault{Code: api.ErrArg, Why: wrong(api.ErrSchemaEmpty, 0)})
	for code, s := range map[api.Errno]api.Schema{api.ErrSchemaRange: example(0), api.ErrSchemaEmpty: schemaOf(8)} {
		if _, err := pack.Decode(x, s, ""); !errors.Is(err, api.ErrArg) || !errors.Is(err, code) {
			t.Errorf("%s: %s", brief(s), told(err))
		}
	}
}

// TestDecodeWhole is what DOC.md's examples of the whole read.
func TestDecodeWhole(t *testing.T) {
	x := empty(t)
	n := schemaOf(300, is(api.Int))
	p := schemaOf(64, is(api.Int), most(8, down(is(api.Bytes))))
	wantTuple(t, x, p, "\x12\x80\x23\xff\xfe", tuplePart(intPart(0), bytesPart("")))
	wantNoKey(t, x, n, "\x12\x82\x00", inField(0, 0, api.Fault{Code: api.ErrFieldShort, At: 3}))
	wantNoKey(t, x, p, "\x12", inField(0, 0, api.Fault{Code: api.ErrFieldShort, At: 1}))
	wantNoKey(t, x, p, "\x11\x80", inField(0, 0, api.Fault{Code: api.ErrFieldTag}))
	wantNoKey(t, x, p, "\x12\x80\x23\xff\xfe\x00", wrong(api.ErrPackMore, 5))
	wantNoKey(t, x, p, "\x12\x80\x23\xff\xff", inField(1, 2, api.Fault{Code: api.ErrFieldEscape, At: 1, Why: api.ErrOrdForm}))
	wantNoKey(t, x, p, "\x12\x80\x13", inField(1, 2, api.Fault{Code: api.ErrFieldTag}))
}

// TestDecodeRefused is R5 in P15.2: no tables, ahead of a schema that may not be, ahead of all that is said of the bytes, how many they are among it.
func TestDecodeRefused(t *testing.T) {
	x := odd(t)
	keys := []string{"", "\x11\x01\x22\x80\x01", "\x11\x01\x22\x80\x01\x00", "\xff", strings.Repeat("\x00", 65537)}
	for what, s := range refusals() {
		bad := schema.Check(s)
		if bad == nil {
			t.Fatalf("%s: it may be", what)
		}
		for _, key := range keys {
			wantNoKey(t, x, s, key, &api.Fault{Code: api.ErrArg, Why: bad})
			wantNoKey(t, nil, s, key, wrong(api.ErrNil, 0))
		}
	}
	for _, key := range keys {
		wantNoKey(t, nil, example(8), key, wrong(api.ErrNil, 0))
		wantNoKey(t, nil, example(1), key, wrong(api.ErrNil, 0))
	}
}

// TestDecodeLong is P15.2: more bytes than Limit are told At Limit, ahead of all that the bytes hold.
func TestDecodeLong(t *testing.T) {
	x := odd(t)
	s, p, parts := everyKind()
	key := strings.Join(parts, "")
	for limit := 1; limit < len(key); limit++ {
		s.Limit = limit
		for _, long := range []string{key, "\xff" + key[1:], strings.Repeat("\x00", len(key)), key + key, key[:limit+1], key[:limit] + "\xff"} {
			wantNoKey(t, x, s, long, wrong(api.ErrPackLong, limit))
		}
		// of as many as may be it is the bytes that are looked at
		if bad := checkDecode(t, x, s, key[:limit]); bad == nil || bad.Code != api.ErrFieldShort || bad.At != limit {
			t.Fatalf("%d: %s", limit, told(bad))
		}
		wantNoKey(t, x, s, "\xff"+key[1:limit], inField(0, 0, api.Fault{Code: api.ErrFieldTag}))
	}
	s.Limit = len(key)
	wantTuple(t, x, s, key, p)
	wantNoKey(t, x, s, key+"\x00", wrong(api.ErrPackLong, len(key))) // not ErrPackMore, though it stands at the same place
	s.Limit++
	wantNoKey(t, x, s, key+"\x00", wrong(api.ErrPackMore, len(key)))

	far := "\x13" + strings.Repeat("a", 65533) + "\x00\x01"
	wantTuple(t, x, schemaOf(65536, is(api.Bytes)), far, tuplePart(bytesPart(strings.Repeat("a", 65533))))
	wantNoKey(t, x, schemaOf(65535, is(api.Bytes)), far, wrong(api.ErrPackLong, 65535))
	wantNoKey(t, x, schemaOf(65536, is(api.Bytes)), far+"\x00", wrong(api.ErrPackLong, 65536))
	wantNoKey(t, x, schemaOf(65536, is(api.Bytes)), strings.Repeat("\xff", 1<<20), wrong(api.ErrPackLong, 65536))
}

// badBytes are bytes of a field that it refuses, and how; what may stand behind them is nothing, where they end too early.
type badBytes struct {
	f    api.Field
	b    string
	want api.Fault
}

// bads are bytes that a field refuses: by each number there is, alone and deep within tuples, which fall, too.
func bads() []badBytes {
	name, text := most(2, is(api.Name)), collated(api.Collate{Strength: 1})
	deep := down(tupleOf(is(api.Bool), tupleOf(is(api.Bool), bounded(num(0), num(9)))))
	return []badBytes{
		{is(api.Bool), "", api.Fault{Code: api.ErrFieldShort}},
		{is(api.Bool), "\x11", api.Fault{Code: api.ErrFieldShort, At: 1}},
		{is(api.ID), "\x14abcdefghijklmno", api.Fault{Code: api.ErrFieldShort, At: 16}},
		{deep, "\x27\xee\xfe\xe8\xee\xfe\xed\x7d", api.Fault{Code: api.ErrFieldShort, At: 8, Path: []int{1, 1}}},
		{deep, "\x27\xee\xfe\xe8\xee\xfe\xed\x7f", api.Fault{Code: api.ErrFieldShort, At: 8, Path: []int{1}}},
		{deep, "\x27\xee\xfe\xe8\xee\xfe\xed\x7f\xfe", api.Fault{Code: api.ErrFieldShort, At: 9}},
		{is(api.Bool), "\x10\x01", api.Fault{Code: api.ErrFieldTag}},
		{nulls(api.NullFirst, is(api.Bool)), "\x7d", api.Fault{Code: api.ErrFieldTag}},
		{deep, "\x27\xee\xfe\xe8\x11\xfe\xed\x7f\xfe\xfe", api.Fault{Code: api.ErrFieldTag, At: 4, Path: []int{1, 0}}},
		{is(api.Bytes), "\x13ab\x00\x02", api.Fault{Code: api.ErrFieldEscape, At: 3, Why: api.ErrOrdForm}},
		{tupleOf(down(name)), "\x17\x25\xff\xff", api.Fault{Code: api.ErrFieldEscape, At: 2, Path: []int{0}, Why: api.ErrOrdForm}},
		{is(api.Bool), "\x11\x02", api.Fault{Code: api.ErrFieldShape, At: 1}},
		{is(api.Int), "\x12\x81\x00", api.Fault{Code: api.ErrFieldShape, At: 1, Why: api.ErrNatForm}},
		{text, "\x16\x22\x00\x00\x00\x01", api.Fault{Code: api.ErrFieldShape, At: 1}},
		{deep, "\x27\xee\xfe\xe8\xee\xfe\xed\x7e\xff\xfe\xfe", api.Fault{Code: api.ErrFieldShape, At: 7, Path: []int{1, 1}, Why: api.ErrNatForm}},
		{deep, "\x27\xee\xfe\xe8\xee\xfe\xed\x7f\x01\xfe", api.Fault{Code: api.ErrFieldShape, At: 8, Path: []int{1}}},
		{deep, "\x27\xee\xfe\xe8\xee\xfe\xed\x7f\xfe\x01", api.Fault{Code: api.ErrFieldShape, At: 9}},
		{text, "\x16\x21\x10\x01\x00\x00a\x00\x01", api.Fault{Code: api.ErrFieldWeight, At: 2}},
		{down(tupleOf(text)), "\x27\xe9\xde\xef\xfe\xff\xff\x9e\xff\xfe\xfe", api.Fault{Code: api.ErrFieldWeight, At: 3, Path: []int{0}}},
		{bounded(num(0), num(9)), "\x12\x81\x0a", api.Fault{Code: api.ErrFitRange, At: 1}},
		{deep, "\x27\xee\xfe\xe8\xee\xfe\xed\x80\x01\xfe\xfe", api.Fault{Code: api.ErrFitRange, At: 7, Path: []int{1, 1}}},
		{name, "\x15abc\x00\x01", api.Fault{Code: api.ErrFitLong, At: 1}},
		{tupleOf(is(api.Bool), name), "\x17\x11\x00\x15abc\x00\x01\x01", api.Fault{Code: api.ErrFitLong, At: 4, Path: []int{1}}},
		{name, "\x15\xc3\x00\x01", api.Fault{Code: api.ErrFitUtf, At: 1, Why: api.ErrUtfForm}},
		{text, "\x16\x21\x00\x00\xc3\x00\x01", api.Fault{Code: api.ErrFitUtf, At: 4, Why: api.ErrUtfForm}},
	}
}

// TestDecodeBad is P15.2: what a field refuses, in the first field, and in a later one: the same number, the place moved on, the field's place ahead of the path, and the field's error as what it comes of.
func TestDecodeBad(t *testing.T) {
	x := odd(t)
	every, _, parts := everyKind()
	codes := map[api.Errno]bool{}
	for _, c := range bads() {
		codes[c.want.Code] = true
		for i := range len(every.Fields) + 1 {
			ahead := strings.Join(parts[:i], "")
			fields := append(every.Fields[:i:i], c.f)
			wantNoKey(t, x, schemaOf(65536, fields...), ahead+c.b, inField(i, len(ahead), c.want))
			if c.want.Code == api.ErrFieldShort {
				continue
			}
			fields = append(fields, every.Fields[i:]...)
			s := schemaOf(65536, fields...)
			wantNoKey(t, x, s, ahead+c.b+strings.Join(parts[i:], ""), inField(i, len(ahead), c.want))
			wantNoKey(t, x, s, ahead+c.b+strings.Repeat("\xff", 99), inField(i, len(ahead), c.want))
		}
	}
	for _, code := range []api.Errno{api.ErrFieldShort, api.ErrFieldTag, api.ErrFieldEscape, api.ErrFieldShape, api.ErrFieldWeight, api.ErrFitRange, api.ErrFitLong, api.ErrFitUtf} {
		if !codes[code] {
			t.Errorf("no bytes are refused by %d", code)
		}
	}
}

// TestDecodeWhy is P15.2: what a field refused is found by errors.As, itself and what it comes of, and all numbers by errors.Is, and no others.
func TestDecodeWhy(t *testing.T) {
	x := odd(t)
	for _, c := range bads() {
		s := schemaOf(65536, nulls(api.NullLast, is(api.Bool)), c.f)
		_, _, inner := field.Take(x, c.f, c.b)
		v, err := pack.Decode(x, s, "\x7d"+c.b)
		var outer *api.Fault
		if v != nil || !errors.As(err, &outer) || outer != err {
			t.Fatalf("%s: %s", hex(c.b), told(err))
		}
		var found *api.Fault
		if !errors.As(outer.Why, &found) || found == outer || !sameError(found, inner) || found != errors.Unwrap(err) {
			t.Errorf("%s: %s, not of %s", hex(c.b), told(err), told(inner))
		}
		for _, code := range []api.Errno{api.ErrArg, api.ErrNil, api.ErrOrdForm, api.ErrNatForm, api.ErrUtfForm, api.ErrFieldShort, api.ErrFieldTag, api.ErrFieldEscape, api.ErrFieldShape, api.ErrFieldWeight, api.ErrFitRange, api.ErrFitLong, api.ErrFitUtf, api.ErrPackLong, api.ErrPackMore} {
			if want := code == c.want.Code || error(code) == c.want.Why; errors.Is(err, code) != want {
				t.Errorf("%s: %s is %d: %v", hex(c.b), told(err), code, !want)
			}
		}
	}
}

// TestDecodeShort is P15.2: bytes that end between two fields, and within one: the field whose byte is wanted, At their end.
func TestDecodeShort(t *testing.T) {
	x := odd(t)
	s, _, parts := everyKind()
	key := strings.Join(parts, "")
	at := 0
	for i, part := range parts {
		for n := range len(part) {
			bad := checkDecode(t, x, s, key[:at+n])
			if bad == nil || bad.Code != api.ErrFieldShort || bad.At != at+n || bad.Path[0] != i || isFault(t, bad.Why).At != n {
				t.Fatalf("%s: %s", hex(key[:at+n]), told(bad))
			}
			if n == 0 && len(bad.Path) != 1 {
				t.Fatalf("%s: %s", hex(key[:at]), told(bad))
			}
		}
		at += len(part)
	}
	wantNoKey(t, x, schemaOf(1, is(api.Bool)), "", inField(0, 0, api.Fault{Code: api.ErrFieldShort}))
	lots, p := many(64)
	whole := keyOf(t, x, lots, p)
	for i := range len(whole) {
		if bad := checkDecode(t, x, lots, whole[:i]); bad == nil || bad.Code != api.ErrFieldShort || bad.At != i {
			t.Fatalf("%d: %s", i, told(bad))
		}
	}
	wantNoKey(t, x, lots, whole[:len(whole)-1], inField(63, len(whole)-1, api.Fault{Code: api.ErrFieldShort}))
}

// TestDecodeMore is P15.2: bytes behind the last field are told at their place, whatever they are, once every field is right.
func TestDecodeMore(t *testing.T) {
	x := odd(t)
	s, p, parts := everyKind()
	key := strings.Join(parts, "")
	for _, behind := range []string{"\x00", "\x01", "\x02", "\x11\x00", "\x7d", "\xff", key, strings.Repeat("\x00", 1000)} {
		wantNoKey(t, x, s, key+behind, wrong(api.ErrPackMore, len(key)))
	}
	for i := 1; i < len(parts); i++ { // a key of more fields is one of the fewer ones, and bytes behind
		wantNoKey(t, x, api.Schema{Limit: 65536, Fields: s.Fields[:i]}, key, wrong(api.ErrPackMore, len(strings.Join(parts[:i], ""))))
	}
	wantNoKey(t, x, schemaOf(9, nulls(api.NullFirst, is(api.Bool))), "\x02\x02", wrong(api.ErrPackMore, 1))
	wantNoKey(t, x, schemaOf(2, nulls(api.NullFirst, is(api.Bool))), "\x02\xff", wrong(api.ErrPackMore, 1))
	wantNoKey(t, x, schemaOf(1, nulls(api.NullFirst, is(api.Bool))), "\x02\xff", wrong(api.ErrPackLong, 1))
	// what a field refuses is told, though more bytes stand behind than it has
	wantNoKey(t, x, example(65536), "\x11\x01\x22\x7e\xff"+key, inField(1, 2, api.Fault{Code: api.ErrFieldShape, At: 1, Why: api.ErrNatForm}))
	wantTuple(t, x, s, key, p)
}

// TestDecodeHandedIn is R2: nothing is written into, and all that comes out is new: the Faults, their paths, what they come of.
func TestDecodeHandedIn(t *testing.T) {
	x := odd(t)
	s, p, parts := everyKind()
	again, _, _ := everyKind()
	roomy := make([]api.Field, len(s.Fields), len(s.Fields)+3)
	copy(roomy, s.Fields)
	s.Fields = roomy
	key := strings.Join(parts, "")
	v, err := pack.Decode(x, s, key)
	if err != nil {
		t.Fatal(told(err))
	}
	out := value.Tell(v)
	out.Items[0], out.Items[6].Items[0] = intPart(7), intPart(8)
	if !reflect.DeepEqual(value.Tell(v), p) {
		t.Error("the tuple is changed by what it told")
	}
	wantTuple(t, x, s, key, p)
	if !reflect.DeepEqual(s, again) || !reflect.DeepEqual(roomy[:cap(roomy)][len(roomy):], make([]api.Field, 3)) {
		t.Error("what was handed in is changed")
	}
	deep := strings.Join(parts[:9], "") + "\x17\x17\x12"
	for _, call := range []func() error{
		func() error { _, err := pack.Decode(nil, s, key); return err },
		func() error { _, err := pack.Decode(x, api.Schema{}, key); return err },
		func() error { _, err := pack.Decode(x, schemaOf(1, is(api.Bool)), key); return err },
		func() error { _, err := pack.Decode(x, s, key+"\x00"); return err },
		func() error { _, err := pack.Decode(x, s, deep); return err },
	} {
		newEachTime(t, call)
	}
	path := isFault(t, func() error { _, err := pack.Decode(x, s, deep); return err }()).Path
	if !slices.Equal(path, []int{9, 0, 0}) {
		t.Errorf("%v", path)
	}
}

// newEachTime: a call tells another Fault each time, whatever was done to the one before; and its own path is no piece of what it comes of.
func newEachTime(t *testing.T, call func() error) {
	t.Helper()
	one, other := isFault(t, call()), isFault(t, call())
	if one == other || !sameError(one, other) {
		t.Errorf("%s, %s", told(one), told(other))
	}
	before := told(other)
	for i := range one.Path {
		one.Path[i] += 70
	}
	if inner, is := one.Why.(*api.Fault); is {
		want := slices.Clone(isFault(t, other.Why).Path)
		if !slices.Equal(inner.Path, want) {
			t.Errorf("%s: the paths share memory", before)
		}
		for i := range inner.Path {
			inner.Path[i] += 80
		}
		inner.Code, inner.At = 7, 8
	}
	one.Code, one.At = 77, 78
	if told(other) != before || told(call()) != before {
		t.Errorf("%s; then %s, %s", before, told(other), told(call()))
	}
}

// TestDecodeAny is P15.2: bytes that are keys, or nearly so, of schemas of every shape, held against the words.
func TestDecodeAny(t *testing.T) {
	x := odd(t)
	r := rand.New(rand.NewSource(152))
	for range 2000 {
		s := anySchema(r, 1+r.Intn(4))
		key := keyOf(t, x, s, anyTuple(r, s))
		for range 6 {
			checkDecode(t, x, s, spoilt(r, key))
		}
		s.Limit = 1 + r.Intn(len(key)+3)
		checkDecode(t, x, s, key)
		checkDecode(t, x, s, spoilt(r, key))
	}
}

// spoilt is bytes that are otherwise in one place, or cut off, or longer.
func spoilt(r *rand.Rand, key string) string {
	b := []byte(key)
	i := r.Intn(len(b))
	some := []byte{0x00, 0x01, 0x02, 0x7d, 0x80, 0x81, 0xfe, 0xff, byte(r.Intn(256))}
	c := some[r.Intn(len(some))]
	switch r.Intn(6) {
	case 0:
		return string(b[:i])
	case 1:
		return string(slices.Insert(b, i, c))
	case 2:
		return string(slices.Delete(b, i, i+1))
	case 3:
		return string(append(b, c))
	case 4:
		b[i] = 0xff - b[i]
	default:
		b[i] = c
	}
	return string(b)
}
