package pack_test

import (
	"errors"
	"math"
	"math/rand"
	"reflect"
	"strconv"
	"strings"
	"testing"

	"dovetail/api"
	"dovetail/fit"
	"dovetail/pack"
	"dovetail/schema"
	"dovetail/value"
	"dovetail/weigh"
)

// example is the schema of the chapter's examples.
func example(limit int) api.Schema { return schemaOf(limit, is(api.Bool), down(is(api.Int))) }

// TestEncodeExamples is the chapter's table on Encode.
func TestEncodeExamples(t *testing.T) {
	x := empty(t)
	yes := boolPart(true)
	wantKey(t, x, example(8), tuplePart(yes, intPart(-1)), "\x11\x01\x22\x80\x01")
	wantUnkeyed(t, x, example(8), tuplePart(yes), wrong(api.ErrFitCount, 0))
	wantUnkeyed(t, x, example(8), tuplePart(yes, null()), &api.Fault{Code: api.ErrFitNull, Path: []int{1}})
	wantUnkeyed(t, x, example(4), tuplePart(yes, intPart(-1)), wrong(api.ErrPackLong, 0))
	wantUnkeyed(t, x, example(0), tuplePart(yes, intPart(-1)), &api.Fault{Code: api.ErrArg, Why: wrong(api.ErrSchemaRange, 0)})
	wantUnkeyed(t, x, schemaOf(8), tuplePart(yes, intPart(-1)), &api.Fault{Code: api.ErrArg, Why: wrong(api.ErrSchemaEmpty, 0)})
	for code, s := range map[api.Errno]api.Schema{api.ErrSchemaRange: example(0), api.ErrSchemaEmpty: schemaOf(8)} {
		if _, err := pack.Encode(x, s, nil); !errors.Is(err, api.ErrArg) || !errors.Is(err, code) {
			t.Errorf("%s: %s", brief(s), told(err))
		}
	}
}

// TestEncodeWhole is the keys of DOC.md's examples of the whole.
func TestEncodeWhole(t *testing.T) {
	x := load(t, "00E1;0;0061 0301\n0301;230;", "0041;[.1000.0020.0008]\n0061;[.1000.0020.0002]\n0062;[.1001.0020.0002]\n0301;[.0000.0024.0002]")
	p := schemaOf(64, is(api.Int), most(8, down(is(api.Bytes))))
	n := schemaOf(300, is(api.Int))
	tuple := schemaOf(64, down(tupleOf(nulls(api.NullFirst, is(api.Bool)), is(api.Bool))))
	w := schemaOf(64, collated(api.Collate{Strength: 2}))
	for _, c := range []struct {
		s   api.Schema
		p   api.Part
		key string
	}{
		{p, tuplePart(intPart(1), bytesPart("x")), "\x12\x81\x01\x23\x87\xff\xfe"},
		{p, tuplePart(intPart(0), bytesPart("")), "\x12\x80\x23\xff\xfe"},
		{n, tuplePart(intPart(0)), "\x12\x80"},
		{n, tuplePart(intPart(300)), "\x12\x82\x01\x2c"},
		{n, tuplePart(intPart(-1)), "\x12\x7f\xfe"},
		{n, tuplePart(intPart(-256)), "\x12\x7e\xfe\xff"},
		{tuple, tuplePart(tuplePart(null(), boolPart(false))), "\x27\xfd\xee\xff\xfe"},
		{tuple, tuplePart(tuplePart(boolPart(false), boolPart(true))), "\x27\xee\xff\xee\xfe\xfe"},
		{w, tuplePart(textPart("a")), "\x16\x22\x10\x00\x00\x00\x00\x20\x00\x00\x61\x00\x01"},
		{w, tuplePart(textPart("\u00e1")), "\x16\x22\x10\x00\x00\x00\x00\x20\x00\x24\x00\x00\xc3\xa1\x00\x01"},
		{w, tuplePart(textPart("a\u0301")), "\x16\x22\x10\x00\x00\x00\x00\x20\x00\x24\x00\x00\x61\xcc\x81\x00\x01"},
	} {
		wantKey(t, x, c.s, c.p, c.key)
	}
}

// everyKind is a schema with a field of each kind, rising and falling, and with nulls; a tuple of it, and its key by hand.
func everyKind() (api.Schema, api.Part, []string) {
	s := schemaOf(65536,
		is(api.Bool), down(is(api.Int)), is(api.Bytes), down(is(api.ID)), is(api.Name), collated(api.Collate{Strength: 1}),
		down(tupleOf(nulls(api.NullLast, is(api.Int)), down(is(api.Bool)))),
		nulls(api.NullFirst, down(is(api.Int))), nulls(api.NullLast, down(tupleOf(is(api.Bool)))), tupleOf(tupleOf(is(api.Bool))))
	p := tuplePart(
		boolPart(false), intPart(256), bytesPart("\x00a"), rawPart(api.ID, "0123456789abcdef"), namePart("b"), textPart("a"),
		tuplePart(null(), boolPart(true)),
		null(), null(), tuplePart(tuplePart(boolPart(true))))
	return s, p, []string{
		"\x11\x00", "\x22\x7d\xfe\xff", "\x13\x00\xffa\x00\x01", "\x24\xcf\xce\xcd\xcc\xcb\xca\xc9\xc8\xc7\xc6\x9e\x9d\x9c\x9b\x9a\x99", "\x15b\x00\x01", "\x16\x21\x10\x00\x00\x00a\x00\x01",
		"\x27\x82\xde\x01\xfe",
		"\x02", "\x7d", "\x17\x17\x11\x01\x01\x01",
	}
}

// TestEncodeFields is P15.1: the fields stand one behind the other, in the schema's order, with nothing between, ahead or behind.
func TestEncodeFields(t *testing.T) {
	x := odd(t)
	s, p, parts := everyKind()
	wantKey(t, x, s, p, strings.Join(parts, ""))
	for i := range parts { // each alone, and from each on
		one := api.Schema{Limit: 65536, Fields: s.Fields[i : i+1]}
		wantKey(t, x, one, tuplePart(p.Items[i]), parts[i])
		rest := api.Schema{Limit: 65536, Fields: s.Fields[i:]}
		wantKey(t, x, rest, tuplePart(p.Items[i:]...), strings.Join(parts[i:], ""))
	}
}

// many is a schema of that many fields of Bool that may be null, and a tuple of it: as many as there may be.
func many(n int) (api.Schema, api.Part) {
	s, p := api.Schema{Limit: 2 * n}, api.Part{Kind: api.Tuple}
	for i := range n {
		s.Fields = append(s.Fields, named("f"+strconv.Itoa(i), nulls(api.NullLast, is(api.Bool))))
		p.Items = append(p.Items, []api.Part{null(), boolPart(false), boolPart(true)}[i%3])
	}
	return s, p
}

// deepest is a schema whose tuples stand within one another as deep as they may, each that is odd falling; and a tuple of it.
func deepest() (api.Schema, api.Part) {
	f, p := is(api.Bool), boolPart(true)
	for i := range 15 {
		f, p = tupleOf(f), tuplePart(p)
		f.Down = i%2 == 0
	}
	return schemaOf(64, f), tuplePart(p)
}

// TestEncodeFar is P15.1: as many fields as there may be, and as deep.
func TestEncodeFar(t *testing.T) {
	x := odd(t)
	s, p := many(64)
	wantKey(t, x, s, p, strings.Repeat("\x7d\x11\x00\x11\x01", 21)+"\x7d")
	s, p = many(65)
	wantUnkeyed(t, x, s, p, &api.Fault{Code: api.ErrArg, Why: &api.Fault{Code: api.ErrSchemaMany, Path: []int{64}}})
	s, p = deepest()
	if key := keyOf(t, x, s, p); len(key) != 32 || value.Depth(must(t, p)) != 16 {
		t.Errorf("%s", hex(key))
	}
}

// refusals are schemas that may not be, one for each number that schema.Check has, and the path that it tells.
func refusals() map[string]api.Schema {
	deep := is(api.Bool)
	for range 16 {
		deep = tupleOf(deep)
	}
	lots, _ := many(65)
	return map[string]api.Schema{
		"limit 0": example(0), "limit below": example(-1), "limit above": example(65537), "the least limit": example(math.MinInt), "the greatest": example(math.MaxInt),
		"no fields": schemaOf(8), "nothing": {}, "many": lots, "deep": schemaOf(8, deep),
		"name":      {Limit: 8, Fields: []api.Field{named("A", is(api.Bool))}},
		"twice":     {Limit: 8, Fields: []api.Field{is(api.Bool), is(api.Bool)}},
		"kind":      schemaOf(8, is(api.Bool), api.Field{Kind: 8}),
		"null":      schemaOf(8, api.Field{}),
		"range":     schemaOf(8, is(api.Bool), tupleOf(is(api.Bool), bounded(num(1), num(0)))),
		"strength":  schemaOf(8, collated(api.Collate{Strength: 4})),
		"no tuple":  schemaOf(8, is(api.Bool), api.Field{Kind: api.Tuple}),
		"more most": schemaOf(8, most(65537, is(api.Bytes))),
	}
}

// TestEncodeRefused is R5 in P15.1: no tables, ahead of a schema that may not be, ahead of all that is said of the value.
func TestEncodeRefused(t *testing.T) {
	x := odd(t)
	values := []api.Part{null(), boolPart(true), tuplePart(), tuplePart(boolPart(true), intPart(-1)), tuplePart(boolPart(true), intPart(9)), tuplePart(textPart("\xff"), null())}
	seen := map[api.Errno]bool{}
	for what, s := range refusals() {
		bad := schema.Check(s)
		if bad == nil {
			t.Fatalf("%s: it may be", what)
		}
		seen[isFault(t, bad).Code] = true
		for _, p := range values {
			wantUnkeyed(t, x, s, p, &api.Fault{Code: api.ErrArg, Why: bad})
			wantUnkeyed(t, nil, s, p, wrong(api.ErrNil, 0))
		}
	}
	for code := api.ErrSchemaName; code <= api.ErrSchemaMany; code++ {
		if !seen[code] {
			t.Errorf("no schema is refused by %d", code)
		}
	}
	for _, p := range values { // of a schema that may be no tables are told first, too, though no text is weighed
		wantUnkeyed(t, nil, example(8), p, wrong(api.ErrNil, 0))
		wantUnkeyed(t, nil, example(1), p, wrong(api.ErrNil, 0))
	}
}

// TestEncodeUnfit is P15.1: what fit.Check says, as it is, ahead of a key that is too long.
func TestEncodeUnfit(t *testing.T) {
	x := odd(t)
	s := func(limit int) api.Schema {
		return schemaOf(limit, is(api.Bool), bounded(num(-1), num(1)), most(2, is(api.Bytes)), most(3, is(api.Name)), is(api.Text), tupleOf(is(api.ID), down(tupleOf(nulls(api.NullFirst, is(api.Int))))))
	}
	good := []api.Part{boolPart(true), intPart(1), bytesPart("ab"), namePart("abc"), textPart("a"), tuplePart(rawPart(api.ID, strings.Repeat("a", 16)), tuplePart(null()))}
	with := func(i int, p api.Part) api.Part {
		q := tuplePart(append([]api.Part{}, good...)...)
		q.Items[i] = p
		return q
	}
	keyOf(t, x, s(65536), tuplePart(good...))
	id := good[5].Items[0]
	kind := wrong(api.ErrKind, 0)
	for _, limit := range []int{1, 65536} {
		for _, c := range []struct {
			p    api.Part
			want api.Fault
		}{
			{null(), api.Fault{Code: api.ErrFitNull}},
			{boolPart(true), api.Fault{Code: api.ErrFitKind, Why: kind}},
			{bytesPart(""), api.Fault{Code: api.ErrFitKind, Why: kind}},
			{tuplePart(), api.Fault{Code: api.ErrFitCount}},
			{tuplePart(good[:5]...), api.Fault{Code: api.ErrFitCount}},
			{tuplePart(append(good[:6:6], null())...), api.Fault{Code: api.ErrFitCount}},
			{with(0, null()), api.Fault{Code: api.ErrFitNull, Path: []int{0}}},
			{with(0, intPart(0)), api.Fault{Code: api.ErrFitKind, Path: []int{0}, Why: kind}},
			{with(1, intPart(2)), api.Fault{Code: api.ErrFitRange, Path: []int{1}}},
			{with(1, intPart(-2)), api.Fault{Code: api.ErrFitRange, Path: []int{1}}},
			{with(2, bytesPart("abc")), api.Fault{Code: api.ErrFitLong, Path: []int{2}}},
			{with(3, namePart("abcd")), api.Fault{Code: api.ErrFitLong, Path: []int{3}}},
			{with(3, namePart("a\xff")), api.Fault{Code: api.ErrFitUtf, At: 1, Path: []int{3}, Why: api.ErrUtfForm}},
			{with(4, textPart("ab\xc3")), api.Fault{Code: api.ErrFitUtf, At: 2, Path: []int{4}, Why: api.ErrUtfForm}},
			{with(5, tuplePart(id)), api.Fault{Code: api.ErrFitCount, Path: []int{5}}},
			{with(5, tuplePart(null(), tuplePart(null()))), api.Fault{Code: api.ErrFitNull, Path: []int{5, 0}}},
			{with(5, tuplePart(id, tuplePart())), api.Fault{Code: api.ErrFitCount, Path: []int{5, 1}}},
			{with(5, tuplePart(id, tuplePart(textPart("")))), api.Fault{Code: api.ErrFitKind, Path: []int{5, 1, 0}, Why: kind}},
		} {
			wantUnkeyed(t, x, s(limit), c.p, &c.want)
		}
	}
}

// TestEncodeLimit is P15.1: a key of just Limit bytes, and of one more, wherever the limit lies in it.
func TestEncodeLimit(t *testing.T) {
	x := odd(t)
	s, p, parts := everyKind()
	whole := strings.Join(parts, "")
	for limit := 1; limit <= len(whole)+2; limit++ {
		s.Limit = limit
		if limit < len(whole) {
			wantUnkeyed(t, x, s, p, wrong(api.ErrPackLong, 0))
			continue
		}
		wantKey(t, x, s, p, whole)
	}
	wantKey(t, x, schemaOf(1, nulls(api.NullFirst, is(api.Bool))), tuplePart(null()), "\x02")
	wantUnkeyed(t, x, schemaOf(1, nulls(api.NullFirst, is(api.Bool))), tuplePart(boolPart(true)), wrong(api.ErrPackLong, 0))
	wantUnkeyed(t, x, schemaOf(1, nulls(api.NullFirst, is(api.Bool)), nulls(api.NullLast, is(api.Bool))), tuplePart(null(), null()), wrong(api.ErrPackLong, 0))
}

// TestEncodeGreatest is P15.1 at the greatest limit: bytes that are let be, and whose key is too long nonetheless.
func TestEncodeGreatest(t *testing.T) {
	x := odd(t)
	for _, f := range []api.Field{is(api.Bytes), down(is(api.Name))} {
		one := schemaOf(65536, f)
		two := schemaOf(65536, f, is(api.Bool))
		for n, fits := range map[int][2]bool{65530: {true, true}, 65531: {true, true}, 65532: {true, false}, 65533: {true, false}, 65534: {false, false}, 65536: {false, false}} {
			p := rawPart(f.Kind, strings.Repeat("a", n))
			checkLong(t, x, one, tuplePart(p), fits[0])
			checkLong(t, x, two, tuplePart(p, boolPart(true)), fits[1])
		}
		for n, fits := range map[int]bool{32766: true, 32767: false} { // of a byte 00 there stand two
			checkLong(t, x, one, tuplePart(rawPart(f.Kind, strings.Repeat("\x00", n))), fits)
		}
	}
	for n, fits := range map[int]bool{9360: true, 9361: false} { // three weights, and itself, of each letter
		checkLong(t, x, schemaOf(65536, is(api.Text)), tuplePart(textPart(strings.Repeat("a", n))), fits)
	}
	if err := fit.Check(schemaOf(1, is(api.Bytes)), must(t, tuplePart(bytesPart(strings.Repeat("a", 65536))))); err != nil {
		t.Error(told(err))
	}
	checkLong(t, x, schemaOf(65536, is(api.Text)), tuplePart(textPart(strings.Repeat("\u4e00", 21845))), false)
}

func checkLong(t *testing.T, x *weigh.Tables, s api.Schema, p api.Part, fits bool) {
	t.Helper()
	if fits {
		keyOf(t, x, s, p)
		return
	}
	wantUnkeyed(t, x, s, p, wrong(api.ErrPackLong, 0))
}

// TestEncodeAny is P15.1: schemas of every shape, held against the words, with limits about the key's length.
func TestEncodeAny(t *testing.T) {
	x := odd(t)
	r := rand.New(rand.NewSource(151))
	for range 3000 {
		s := anySchema(r, 1+r.Intn(4))
		p := anyTuple(r, s)
		key := keyOf(t, x, s, p)
		if s.Limit = len(key); s.Limit > 1 {
			wantKey(t, x, s, p, key)
			s.Limit = 1 + r.Intn(len(key)-1)
			wantUnkeyed(t, x, s, p, wrong(api.ErrPackLong, 0))
			s.Limit = len(key) - 1
			wantUnkeyed(t, x, s, p, wrong(api.ErrPackLong, 0))
		}
		// a tuple of another schema, often none of this one
		q := anyTuple(r, anySchema(r, 2))
		if want, err := plainEncode(x, s, q, must(t, q)); err != nil {
			wantUnkeyed(t, x, s, q, err.(*api.Fault))
		} else {
			wantKey(t, x, s, q, want)
		}
	}
}

// TestEncodeHandedIn is R2: the schema's lists are not written into, nor their spare room; a Fault is another one each time.
func TestEncodeHandedIn(t *testing.T) {
	x := odd(t)
	s, p, _ := everyKind()
	again, _, _ := everyKind()
	roomy := make([]api.Field, len(s.Fields), len(s.Fields)+3)
	copy(roomy, s.Fields)
	s.Fields = roomy
	v := must(t, p)
	first, err := pack.Encode(x, s, v)
	second, bad := pack.Encode(x, s, v)
	if first != second || err != nil || bad != nil {
		t.Fatalf("%s, %s, %s, %s", hex(first), told(err), hex(second), told(bad))
	}
	if !reflect.DeepEqual(s, again) || !reflect.DeepEqual(roomy[:cap(roomy)][len(roomy):], make([]api.Field, 3)) || !reflect.DeepEqual(value.Tell(v), p) {
		t.Error("what was handed in is changed")
	}
	long := s
	long.Limit = 3
	for what, call := range map[string]func() error{
		"nil":    func() error { _, err := pack.Encode(nil, s, v); return err },
		"schema": func() error { _, err := pack.Encode(x, api.Schema{}, v); return err },
		"unfit":  func() error { _, err := pack.Encode(x, s, nil); return err },
		"long":   func() error { _, err := pack.Encode(x, long, v); return err },
	} {
		one, other := isFault(t, call()), isFault(t, call())
		if one == other || !sameError(one, other) {
			t.Errorf("%s: %s, %s", what, told(one), told(other))
		}
		before := *other
		one.Code, one.At, one.Why = 77, 78, nil
		if third := isFault(t, call()); !sameError(third, &before) {
			t.Errorf("%s: then %s", what, told(third))
		}
	}
}
