package rekey_test

import (
	"math"
	"math/rand"
	"reflect"
	"slices"
	"strconv"
	"strings"
	"testing"

	"dovetail/api"
	"dovetail/fit"
	"dovetail/pack"
	"dovetail/rekey"
	"dovetail/schema"
	"dovetail/value"
	"dovetail/weigh"
)

// TestKeyWhole is what DOC.md's examples of the whole make over, by their bytes.
func TestKeyWhole(t *testing.T) {
	x := empty(t)
	p := schemaOf(64, is(api.Int), most(8, down(is(api.Bytes))))
	q := schemaOf(64, most(8, is(api.Bytes)), most(3, is(api.Name)), is(api.Int))
	l := []api.Source{{Field: 1}, own(namePart("z")), {Field: 0}}
	wantKey(t, x, p, q, l, "\x12\x81\x01\x23\x87\xff\xfe", "\x13x\x00\x01\x15z\x00\x01\x12\x81\x01")
	wantKey(t, x, p, q, l, "\x12\x81\x02\x23\x87\xff\xfe", "\x13x\x00\x01\x15z\x00\x01\x12\x81\x02")
	wantNoKey(t, x, p, q, from(1, 0), "\x12\x81\x01\x23\x87\xff\xfe", &api.Fault{Code: api.ErrFitCount})
	fixed := []api.Source{{Field: 1}, own(namePart("z")), own(intPart(5))}
	wantKey(t, x, p, q, fixed, "\x12\x81\x01\x23\x87\xff\xfe", "\x13x\x00\x01\x15z\x00\x01\x12\x81\x05")
	wantKey(t, x, p, q, fixed, "\x12\x81\x02\x23\x87\xff\xfe", "\x13x\x00\x01\x15z\x00\x01\x12\x81\x05") // two keys may become one
}

// everyKind is a schema with a field of each kind, some of which fall or may be null, a tuple of it, and the bytes of its fields.
func everyKind() (api.Schema, api.Part, []string) {
	s := schemaOf(65536,
		is(api.Bool), down(is(api.Int)), is(api.Bytes), down(is(api.ID)), is(api.Name), collated(api.Collate{Strength: 1}),
		down(tupleOf(nulls(api.NullLast, is(api.Int)), down(is(api.Bool)))),
		nulls(api.NullFirst, down(is(api.Int))), nulls(api.NullLast, down(tupleOf(is(api.Bool)))), tupleOf(tupleOf(is(api.Bool))))
	p := tuplePart(
		boolPart(false), intPart(256), bytesPart("\x00a"), rawPart(api.ID, "0123456789abcdef"), namePart("b"), textPart("a"),
		tuplePart(null(), boolPart(true)),
		null(), null(), tuplePart(tuplePart(boolPart(true))))
	return s, p, []string{
		"\x11\x00", "\x22\x7d\xfe\xff", "\x13\x00\xffa\x00\x01", "\x24\xcf\xce\xcd\xcc\xcb\xca\xc9\xc8\xc7\xc6\x9e\x9d\x9c\x9b\x9a\x99", "\x15b\x00\x01", "\x16\x21\x10\x00\x00\x00a\x00\x01",
		"\x27\x82\xde\x01\xfe",
		"\x02", "\x7d", "\x17\x17\x11\x01\x01\x01",
	}
}

// TestKeyFields is P18.2: each field of each kind alone, two in either order, one twice, and one of its own beside: the bytes of these fields, whatever stood about them.
func TestKeyFields(t *testing.T) {
	x := odd(t)
	s, p, parts := everyKind()
	key := strings.Join(parts, "")
	for i, f := range s.Fields {
		wantKey(t, x, s, schemaOf(65536, f), from(i), key, parts[i])
		wantKey(t, x, s, schemaOf(65536, f, is(api.Bool), f), []api.Source{{Field: i}, own(boolPart(true)), {Field: i}}, key, parts[i]+"\x11\x01"+parts[i])
		wantKey(t, x, s, schemaOf(65536, f), []api.Source{own(p.Items[i])}, key, parts[i])
		for j, g := range s.Fields {
			wantKey(t, x, s, schemaOf(65536, f, g), from(i, j), key, parts[i]+parts[j])
		}
		// of a field that is turned the bytes are those of the other schema's
		turned := f
		turned.Down = !f.Down
		if got, _ := checkKey(t, x, s, schemaOf(65536, turned), from(i), key); p.Items[i].Kind != api.Null && got == parts[i] {
			t.Errorf("%d: %s", i, hex(got))
		}
	}
	back := slices.Clone(s.Fields)
	slices.Reverse(back)
	order := []int{9, 8, 7, 6, 5, 4, 3, 2, 1, 0}
	turned := slices.Clone(parts)
	slices.Reverse(turned)
	wantKey(t, x, s, schemaOf(65536, back...), from(order...), key, strings.Join(turned, ""))
}

// TestKeyTexts is P18.2: a text is spelt in the new key as in the old one, and weighs there what the new field's collation says.
func TestKeyTexts(t *testing.T) {
	x := odd(t)
	for _, by := range collations() {
		s := schemaOf(65536, is(api.Bool), collated(by))
		for _, other := range collations() {
			to := schemaOf(65536, down(collated(other)), is(api.Bool))
			for _, text := range texts() {
				key := keyOf(t, x, s, tuplePart(boolPart(true), textPart(text)))
				got, _ := checkKey(t, x, s, to, from(1, 0), key)
				wantKey(t, x, to, s, from(1, 0), got, key)
			}
		}
	}
}

// refusals are schemas that may not be.
func refusals() []api.Schema {
	limited := func(n int) api.Schema { return schemaOf(n, is(api.Bool)) }
	return []api.Schema{
		{}, limited(0), limited(-1), limited(65537), limited(math.MinInt), limited(math.MaxInt), schemaOf(8), many(65),
		{Limit: 8, Fields: []api.Field{named("A", is(api.Bool))}},
		{Limit: 8, Fields: []api.Field{is(api.Bool), is(api.Bool)}},
		schemaOf(8, is(api.Bool), api.Field{Kind: 8}),
		schemaOf(8, is(api.Bool), tupleOf(is(api.Bool), bounded(num(1), num(0)))),
		schemaOf(8, collated(api.Collate{Strength: 4})),
		schemaOf(8, is(api.Bool), api.Field{Kind: api.Tuple}),
		schemaOf(8, most(65537, is(api.Bytes))),
	}
}

// many is a schema of so many fields.
func many(n int) api.Schema {
	s := api.Schema{Limit: 2 * n}
	for i := range n {
		s.Fields = append(s.Fields, named("f"+strconv.Itoa(i), is(api.Bool)))
	}
	return s
}

// refused is the Fault of R5 on a schema that may not be.
func refused(t testing.TB, s api.Schema) *api.Fault {
	t.Helper()
	why := schema.Check(s)
	if why == nil {
		t.Fatalf("%s: it may be", brief(s))
	}
	return &api.Fault{Code: api.ErrArg, Why: why}
}

// choice is one that a call is given, and what is wrong with it, if anything.
type choice[T any] struct {
	give T
	bad  error
}

// What Key is given in TestKeyFirst: of each sort what is right, and what is wrong in each way.
type choices struct {
	tables  []choice[*weigh.Tables]
	schemas []choice[api.Schema]
	keys    []choice[string]
	sources []choice[[]api.Source]
	others  []choice[api.Schema]
}

// someChoices are those of the schema (Int, Bytes of at most 3, which fall) and of the key of (300, "ab"), made over to (Bytes, Bool, Int).
func someChoices(t testing.TB) choices {
	s := schemaOf(16, is(api.Int), most(3, down(is(api.Bytes))))
	to := schemaOf(12, is(api.Bytes), is(api.Bool), is(api.Int))
	ahead := api.Fault{Code: api.ErrFieldTag}
	c := choices{
		tables:  []choice[*weigh.Tables]{{odd(t), nil}, {nil, &api.Fault{Code: api.ErrNil}}},
		schemas: []choice[api.Schema]{{s, nil}},
		keys: []choice[string]{
			{"\x12\x82\x01\x2c\x23\x9e\x9d\xff\xfe", nil},
			{strings.Repeat("\x00", 17), &api.Fault{Code: api.ErrPackLong, At: 16}},
			{"\x12\x82\x01\x2c\x23\x9e\x9d\xff\xfe\x00", &api.Fault{Code: api.ErrPackMore, At: 9}},
			{"\x12\x82\x01\x2c\x13ab\x00\x01", &api.Fault{Code: api.ErrFieldTag, At: 4, Path: []int{1}, Why: &ahead}},
		},
		sources: []choice[[]api.Source]{
			{[]api.Source{{Field: 1}, own(boolPart(true)), {Field: 0}}, nil},
			{from(1, 0, 2), wrong(2)},
			{all(1025), wrong(1024)},
			{[]api.Source{{Field: 1}, own(api.Part{Kind: 9}), {Field: 0}}, wrongPart(1, api.ErrValueForm)},
			{[]api.Source{own(nested(16, null())), {Field: 7}}, wrongPart(0, api.ErrValueDeep)},
		},
		others: []choice[api.Schema]{
			{to, nil},
			{schemaOf(12, is(api.Bytes), is(api.Bool)), &api.Fault{Code: api.ErrFitCount}},
			{schemaOf(12, is(api.Bytes), is(api.Bool), is(api.Name)), otherKind(2)},
			{schemaOf(12, most(1, is(api.Bytes)), is(api.Bool), is(api.Name)), &api.Fault{Code: api.ErrFitLong, Path: []int{0}}},
			{schemaOf(12, is(api.Bytes), is(api.Bool), bounded(num(0), num(299))), &api.Fault{Code: api.ErrFitRange, Path: []int{2}}},
			{schemaOf(10, is(api.Bytes), is(api.Bool), is(api.Int)), &api.Fault{Code: api.ErrPackLong}},
			{schemaOf(1, is(api.Bytes), is(api.Bool), is(api.Int)), &api.Fault{Code: api.ErrPackLong}},
		},
	}
	for _, s := range refusals() {
		c.schemas = append(c.schemas, choice[api.Schema]{s, refused(t, s)})
		c.others = append(c.others, choice[api.Schema]{s, refused(t, s)})
	}
	return c
}

// TestKeyFirst is P18.2: of tables, a schema, bytes, sources and another schema that may not be, or do not go together, each alone and all at once: the first one's error is told.
func TestKeyFirst(t *testing.T) {
	c := someChoices(t)
	for _, x := range c.tables {
		for _, s := range c.schemas {
			for _, key := range c.keys {
				for _, l := range c.sources {
					for _, to := range c.others {
						first(t, x, s, key, l, to)
					}
				}
			}
		}
	}
}

func first(t *testing.T, x choice[*weigh.Tables], s choice[api.Schema], key choice[string], l choice[[]api.Source], to choice[api.Schema]) {
	t.Helper()
	for _, bad := range []error{x.bad, s.bad, key.bad, l.bad, to.bad} {
		if bad != nil {
			wantNoKey(t, x.give, s.give, to.give, l.give, key.give, bad)
			return
		}
	}
	wantKey(t, x.give, s.give, to.give, l.give, key.give, "\x13ab\x00\x01\x11\x01\x12\x82\x01\x2c")
}

// TestKeyUnfit is P18.2: what pack.Encode says of a tuple made over that is none of the other schema's, as it is, deep within tuples too.
func TestKeyUnfit(t *testing.T) {
	x := odd(t)
	s, p, parts := everyKind()
	key := strings.Join(parts, "")
	deep := tupleOf(is(api.Bool), tupleOf(is(api.Bool), down(is(api.Name))))
	to := schemaOf(65536, s.Fields[0], deep)
	own0 := func(q api.Part) []api.Source { return []api.Source{{Field: 0}, own(q)} }
	wantNoKey(t, x, s, to, own0(null()), key, &api.Fault{Code: api.ErrFitNull, Path: []int{1}})
	wantNoKey(t, x, s, to, own0(tuplePart(boolPart(true))), key, &api.Fault{Code: api.ErrFitCount, Path: []int{1}})
	wantNoKey(t, x, s, to, own0(tuplePart(boolPart(true), tuplePart(boolPart(true), intPart(1)))), key, otherKind(1, 1, 1))
	wantNoKey(t, x, s, to, own0(tuplePart(boolPart(true), tuplePart(boolPart(true), namePart("\xff")))), key, &api.Fault{Code: api.ErrFitUtf, Path: []int{1, 1, 1}, Why: api.ErrUtfForm})
	// a field of every kind for a field of every other one
	for i := range s.Fields {
		for j, g := range s.Fields {
			want := fit.Check(schemaOf(65536, g), must(t, tuplePart(p.Items[i])))
			if want == nil {
				wantKey(t, x, s, schemaOf(65536, g), from(i), key, keyOf(t, x, schemaOf(65536, g), tuplePart(p.Items[i])))
			} else {
				wantNoKey(t, x, s, schemaOf(65536, g), from(i), key, want)
			}
			if i == j && want != nil {
				t.Errorf("%d: %s", i, told(want))
			}
		}
	}
	wantNoKey(t, x, s, schemaOf(9, is(api.Bool)), nil, key, &api.Fault{Code: api.ErrFitCount})
	wantNoKey(t, x, s, schemaOf(9, is(api.Bool)), all(10), key, &api.Fault{Code: api.ErrFitCount})
	wantNoKey(t, x, s, s, from(slices.Repeat([]int{0}, 1024)...), key, &api.Fault{Code: api.ErrFitCount})
}

// otherKind is what layer 12 says of a value of another kind than its field's.
func otherKind(path ...int) *api.Fault {
	return &api.Fault{Code: api.ErrFitKind, Path: path, Why: &api.Fault{Code: api.ErrKind}}
}

// TestKeyLong is P18.2: a key of just as many bytes as the other schema lets be, and one more; the first one's limit counts for nothing there.
func TestKeyLong(t *testing.T) {
	x := odd(t)
	s, _, parts := everyKind()
	key := strings.Join(parts, "")
	s.Limit = len(key)
	double := append(slices.Clone(s.Fields), s.Fields...)
	l := append(all(10), all(10)...)
	for limit := 1; limit <= 2*len(key)+2; limit++ {
		to := schemaOf(limit, double...)
		if limit < 2*len(key) {
			wantNoKey(t, x, s, to, l, key, &api.Fault{Code: api.ErrPackLong})
		} else {
			wantKey(t, x, s, to, l, key, key+key)
		}
		s.Limit = limit
		if limit < len(key) { // of the old key it is told where
			wantNoKey(t, x, s, to, l, key, &api.Fault{Code: api.ErrPackLong, At: limit})
		}
		s.Limit = len(key)
	}
	long := strings.Repeat("a", 65533)
	one, two := schemaOf(65536, is(api.Bytes)), schemaOf(65536, is(api.Bytes), nulls(api.NullLast, is(api.Bool)))
	wantKey(t, x, one, one, from(0), "\x13"+long+"\x00\x01", "\x13"+long+"\x00\x01")
	wantNoKey(t, x, one, two, []api.Source{{}, own(null())}, "\x13"+long+"\x00\x01", &api.Fault{Code: api.ErrPackLong})
	wantKey(t, x, one, two, []api.Source{{}, own(null())}, "\x13"+long[1:]+"\x00\x01", "\x13"+long[1:]+"\x00\x01\x7d")
	wantKey(t, x, two, schemaOf(1, nulls(api.NullFirst, is(api.Bool))), from(1), "\x13"+long[1:]+"\x00\x01\x7d", "\x02")
}

// TestKeyNoTuple: the bytes of no key are told by pack.Decode's Fault, whole: its place, its path, what it comes of.
func TestKeyNoTuple(t *testing.T) {
	x := odd(t)
	s, _, parts := everyKind()
	key := strings.Join(parts, "")
	for i := range len(key) {
		for _, bad := range []string{key[:i], key[:i] + "\xff" + key[i+1:], key[:i] + "\x00" + key[i:], key + key[:i+1]} {
			_, want := pack.Decode(x, s, bad)
			if want == nil {
				checkKey(t, x, s, s, all(10), bad)
				continue
			}
			for _, l := range [][]api.Source{nil, all(10), all(11), {own(api.Part{Kind: 9})}, make([]api.Source, 1025)} {
				wantNoKey(t, x, s, s, l, bad, want)
				wantNoKey(t, x, s, api.Schema{}, l, bad, want)
			}
			wantNoKey(t, nil, s, s, all(10), bad, &api.Fault{Code: api.ErrNil})
		}
	}
}

// TestKeyAny is P18.2: schemas, sources and keys of every sort, held against the words.
func TestKeyAny(t *testing.T) {
	x := odd(t)
	r := rand.New(rand.NewSource(182))
	codes := map[api.Errno]int{}
	for range 6000 {
		s := anySchema(r, 1+r.Intn(3))
		key := keyOf(t, x, s, anyTuple(r, s))
		to, l := madeOver(r, s)
		for range 3 {
			_, err := checkKey(t, x, s, to, l, key)
			codes[codeOf(err)]++
			to.Limit = 1 + r.Intn(40)
			key = keyOf(t, x, s, anyTuple(r, s))
		}
	}
	for _, code := range []api.Errno{api.OK, api.ErrRekeyMap, api.ErrFitKind, api.ErrFitNull, api.ErrFitCount, api.ErrFitRange, api.ErrFitLong, api.ErrPackLong} {
		if codes[code] < 20 {
			t.Errorf("%d is told %d times", code, codes[code])
		}
	}
}

func codeOf(err error) api.Errno {
	if bad, is := err.(*api.Fault); is {
		return bad.Code
	}
	return api.OK
}

// madeOver is a schema of fields of another one, in some order, and of others, with the sources that make its tuples; now and then something is otherwise.
func madeOver(r *rand.Rand, s api.Schema) (api.Schema, []api.Source) {
	for {
		to := api.Schema{Limit: 65536}
		var l []api.Source
		for i := range 1 + r.Intn(5) {
			f, from := someField(r, "", 2), api.Source{Field: -1 - r.Intn(2)}
			if n := r.Intn(len(s.Fields)); r.Intn(3) > 0 {
				f, from.Field = s.Fields[n], n
			} else {
				from.Part = anyPart(r, f)
			}
			f.Name = "g" + strconv.Itoa(i)
			to.Fields, l = append(to.Fields, f), append(l, from)
		}
		switch r.Intn(12) {
		case 0:
			l = anySources(r, len(s.Fields), 1+r.Intn(5))
		case 1, 2, 3:
			to = nearSchema(r, to, 2)
		case 4:
			l = append(l, l[0])
		}
		if count(to.Fields) <= 64 {
			return to, l
		}
	}
}

// TestKeyHandedIn is R2: nothing that is handed in is written into, and a Fault is another one each time, with all that it holds.
func TestKeyHandedIn(t *testing.T) {
	x := odd(t)
	s, _, parts := everyKind()
	again, _, _ := everyKind()
	to, other := schemaOf(65536, is(api.Bool), tupleOf(is(api.Int))), schemaOf(65536, is(api.Bool), tupleOf(is(api.Int)))
	s.Fields, to.Fields = roomy(s.Fields), roomy(to.Fields)
	items := roomy([]api.Part{intPart(5)})
	l := roomy([]api.Source{{Field: 0}, own(api.Part{Kind: api.Tuple, Items: items})})
	key := strings.Join(parts, "")
	wantKey(t, x, s, to, l, key, "\x11\x00\x17\x12\x81\x05\x01")
	if !reflect.DeepEqual(s, again) || !reflect.DeepEqual(to, other) || !reflect.DeepEqual(l, []api.Source{{}, own(tuplePart(intPart(5)))}) {
		t.Error("what was handed in is changed")
	}
	wantLeft(t, s.Fields)
	wantLeft(t, to.Fields)
	wantLeft(t, items)
	wantLeft(t, l)
	for _, call := range []func() error{
		func() error { _, err := rekey.Key(nil, s, to, l, key); return err },
		func() error { _, err := rekey.Key(x, api.Schema{}, to, l, key); return err },
		func() error { _, err := rekey.Key(x, s, to, l, key[:len(key)-1]); return err },
		func() error { _, err := rekey.Key(x, s, to, from(10), key); return err },
		func() error { _, err := rekey.Key(x, s, to, []api.Source{own(api.Part{Kind: 9})}, key); return err },
		func() error { _, err := rekey.Key(x, s, schemaOf(9, api.Field{}), l, key); return err },
		func() error { _, err := rekey.Key(x, s, to, from(0, 9), key); return err },
		func() error { _, err := rekey.Key(x, s, schemaOf(1, to.Fields...), l, key); return err },
	} {
		newEachTime(t, call)
	}
}

// TestKeyTuple is T5: a key that is made over is the key of the tuple that is made over.
func TestKeyTuple(t *testing.T) {
	x := odd(t)
	r := rand.New(rand.NewSource(183))
	made := 0
	for range 3000 {
		s := anySchema(r, 1+r.Intn(3))
		p := anyTuple(r, s)
		to, l := madeOver(r, s)
		key, err := rekey.Key(x, s, to, l, keyOf(t, x, s, p))
		v, bad := rekey.Map(l, must(t, p))
		if err != nil {
			if _, worse := pack.Encode(x, to, v); bad == nil && !sameError(err, worse) || bad != nil && !sameError(err, bad) {
				t.Fatalf("%s; %s; %s of %s: %s", brief(s), brief(to), brief(l), brief(p), told(err))
			}
			continue
		}
		made++
		back, worse := pack.Decode(x, to, key)
		if bad != nil || worse != nil || !value.Same(back, v) {
			t.Fatalf("%s; %s; %s of %s: %s is of %s", brief(s), brief(to), brief(l), brief(p), hex(key), brief(value.Tell(back)))
		}
	}
	if made < 1000 {
		t.Errorf("%d keys", made)
	}
}
