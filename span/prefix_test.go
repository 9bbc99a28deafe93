package span_test

import (
	"math"
	"math/rand"
	"reflect"
	"slices"
	"strconv"
	"strings"
	"testing"

	"dovetail/api"
	"dovetail/pack"
	"dovetail/schema"
	"dovetail/span"
	"dovetail/value"
)

// example is the schema of the chapter's examples.
func example() api.Schema {
	return schemaOf(64, is(api.Int), most(9, is(api.Name)), nulls(api.NullLast, down(is(api.Int))))
}

// TestPrefixExamples is the chapter's table on Prefix.
func TestPrefixExamples(t *testing.T) {
	x, one, a := empty(t), intPart(1), namePart("a")
	wantSpan(t, x, example(), prefix(), openFrom(""))
	wantSpan(t, x, example(), prefix(one), fromTo("\x12\x81\x01", "\x12\x81\x02"))
	wantSpan(t, x, example(), prefix(one, a), fromTo("\x12\x81\x01\x15a\x00\x01", "\x12\x81\x01\x15a\x00\x02"))
	wantBad(t, x, example(), prefix(one, a, null(), intPart(2)), wrong(api.ErrSpanDeep))
	wantBad(t, x, example(), ask{call: "prefix", p: one}, wrong(api.ErrKind))
	wantBad(t, x, example(), prefix(a), &api.Fault{Code: api.ErrFitKind, Path: []int{0}, Why: wrong(api.ErrKind)})
}

// everyKind is a schema with a field of each kind, rising and falling, and with nulls; a tuple of it, and its fields' bytes by hand.
func everyKind() (api.Schema, api.Part, []string) {
	s := schemaOf(65536,
		is(api.Bool), down(is(api.Int)), is(api.Bytes), down(is(api.ID)), is(api.Name), collated(api.Collate{Strength: 1}),
		down(tupleOf(nulls(api.NullLast, is(api.Int)), down(is(api.Bool)))),
		nulls(api.NullFirst, down(is(api.Int))), nulls(api.NullLast, down(tupleOf(is(api.Bool)))), tupleOf(tupleOf(is(api.Bool))))
	p := tuplePart(
		boolPart(false), intPart(256), bytesPart("\x00a"), rawPart(api.ID, "0123456789abcdef"), namePart("b"), textPart("a"),
		tuplePart(null(), boolPart(true)),
		null(), null(), tuplePart(tuplePart(boolPart(true))))
	return s, p, []string{
		"\x11\x00", "\x22\x7d\xfe\xff", "\x13\x00\xffa\x00\x01", "\x24\xcf\xce\xcd\xcc\xcb\xca\xc9\xc8\xc7\xc6\x9e\x9d\x9c\x9b\x9a\x99", "\x15b\x00\x01", "\x16\x21\x10\x00\x00\x00a\x00\x01",
		"\x27\x82\xde\x01\xfe",
		"\x02", "\x7d", "\x17\x17\x11\x01\x01\x01",
	}
}

// TestPrefixFields is P16.1: each beginning, from none to as many items as there are fields, as long as it is.
func TestPrefixFields(t *testing.T) {
	x := odd(t)
	s, p, parts := everyKind()
	ends := []string{ // the last byte is one more, or, of FF, the one ahead of it
		"", "\x11\x01", "\x22\x7d\xff", "\x13\x00\xffa\x00\x02", "\x24\xcf\xce\xcd\xcc\xcb\xca\xc9\xc8\xc7\xc6\x9e\x9d\x9c\x9b\x9a\x9a", "\x15b\x00\x02", "\x16\x21\x10\x00\x00\x00a\x00\x02",
		"\x27\x82\xde\x01\xff",
		"\x03", "\x7e", "\x17\x17\x11\x01\x01\x02",
	}
	wantSpan(t, x, s, prefix(), openFrom(""))
	for n := 1; n <= len(parts); n++ {
		from := strings.Join(parts[:n], "")
		to := strings.Join(parts[:n-1], "") + ends[n]
		wantSpan(t, x, s, prefix(p.Items[:n]...), fromTo(from, to))
	}
	key, err := pack.Encode(x, s, must(t, p))
	if a, bad := span.Prefix(x, s, must(t, p)); err != nil || bad != nil || a.From != key {
		t.Errorf("of a whole tuple: %s, not from %s", hexes(a), hex(key))
	}
}

// TestPrefixHigh is P16.1 where bytes FF stand at the end, so that what is next is shorter.
func TestPrefixHigh(t *testing.T) {
	x := odd(t)
	id := strings.Repeat("\xff", 16)
	s := schemaOf(64, is(api.Int), is(api.ID), down(is(api.Bool)))
	wantSpan(t, x, s, prefix(intPart(255)), fromTo("\x12\x81\xff", "\x12\x82"))
	wantSpan(t, x, s, prefix(intPart(65535)), fromTo("\x12\x82\xff\xff", "\x12\x83"))
	wantSpan(t, x, s, prefix(intPart(255), rawPart(api.ID, id)), fromTo("\x12\x81\xff\x14"+id, "\x12\x81\xff\x15"))
	wantSpan(t, x, s, prefix(intPart(255), rawPart(api.ID, id), boolPart(false)), fromTo("\x12\x81\xff\x14"+id+"\x21\xff", "\x12\x81\xff\x14"+id+"\x22"))
	far := api.Num{Mag: strings.Repeat("\xff", 255)} // all that stands behind the tag is FF
	wantSpan(t, x, s, prefix(numPart(far)), fromTo("\x12\xff\xff"+far.Mag, "\x13"))
}

// TestPrefixLimit is P16.1: how long the keys may be bears upon nothing; a beginning may be longer than each of them.
func TestPrefixLimit(t *testing.T) {
	x := odd(t)
	s := schemaOf(1, is(api.Bytes), is(api.Bytes))
	wantSpan(t, x, s, prefix(bytesPart("abc")), fromTo("\x13abc\x00\x01", "\x13abc\x00\x02"))
	long := strings.Repeat("\x00", 65536)
	from := "\x13" + strings.Repeat("\x00\xff", 65536) + "\x00"
	wantSpan(t, x, s, prefix(bytesPart(long)), fromTo(from+"\x01", from+"\x02"))
	wantSpan(t, x, s, prefix(bytesPart(long), bytesPart(long)), fromTo(from+"\x01"+from+"\x01", from+"\x01"+from+"\x02"))
}

// many is a schema of that many fields of Bool that may be null, and a tuple of it.
func many(n int) (api.Schema, api.Part) {
	s, p := api.Schema{Limit: 2 * n}, api.Part{Kind: api.Tuple}
	for i := range n {
		s.Fields = append(s.Fields, named("f"+strconv.Itoa(i), nulls(api.NullLast, is(api.Bool))))
		p.Items = append(p.Items, []api.Part{null(), boolPart(false), boolPart(true)}[i%3])
	}
	return s, p
}

// TestPrefixFar is P16.1: as many fields as there may be, and as deep.
func TestPrefixFar(t *testing.T) {
	x := odd(t)
	s, p := many(64)
	wantSpan(t, x, s, prefix(p.Items...), fromTo(strings.Repeat("\x7d\x11\x00\x11\x01", 21)+"\x7d", strings.Repeat("\x7d\x11\x00\x11\x01", 21)+"\x7e"))
	wantBad(t, x, s, prefix(append(p.Items, null())...), wrong(api.ErrSpanDeep))
	wantBad(t, x, s, prefix(make([]api.Part, 1024)...), wrong(api.ErrSpanDeep))
	f, q := is(api.Bool), boolPart(true)
	for range 15 {
		f, q = tupleOf(f), tuplePart(q)
	}
	from := strings.Repeat("\x17", 15) + "\x11\x01" + strings.Repeat("\x01", 14)
	wantSpan(t, x, schemaOf(64, f, is(api.Bool)), prefix(q), fromTo(from+"\x01", from+"\x02"))
}

// refusals are schemas that may not be, one for each number that schema.Check has.
func refusals() map[string]api.Schema {
	limited := func(n int) api.Schema { return schemaOf(n, is(api.Bool)) }
	deep := is(api.Bool)
	for range 16 {
		deep = tupleOf(deep)
	}
	lots, _ := many(65)
	return map[string]api.Schema{
		"limit 0": limited(0), "limit below": limited(-1), "limit above": limited(65537), "the least limit": limited(math.MinInt), "the greatest": limited(math.MaxInt),
		"no fields": schemaOf(8), "nothing": {}, "many": lots, "deep": schemaOf(8, deep),
		"name":      {Limit: 8, Fields: []api.Field{named("A", is(api.Bool))}},
		"twice":     {Limit: 8, Fields: []api.Field{is(api.Bool), is(api.Bool)}},
		"kind":      schemaOf(8, is(api.Bool), api.Field{Kind: 8}),
		"null":      schemaOf(8, api.Field{}),
		"range":     schemaOf(8, is(api.Bool), tupleOf(is(api.Bool), bounded(num(1), num(0)))),
		"strength":  schemaOf(8, collated(api.Collate{Strength: 4})),
		"no tuple":  schemaOf(8, is(api.Bool), api.Field{Kind: api.Tuple}),
		"more most": schemaOf(8, most(65537, is(api.Bytes))),
	}
}

// faces are all calls that are told a beginning, with all else that they could refuse.
func faces(p api.Part) []ask {
	return []ask{
		{call: "prefix", p: p}, bounds(p), bounds(p, above(intPart(0))), bounds(p, below(api.Part{Kind: 9}), above(tuplePart())), starts(p, ""), starts(p, "a\xff"),
	}
}

// TestRefused is R5 in P16.1 to P16.3: no tables, ahead of a schema that may not be, ahead of all that is said of the value, the bounds, and what it starts with.
func TestRefused(t *testing.T) {
	x := odd(t)
	values := []api.Part{null(), boolPart(true), bytesPart(""), tuplePart(), tuplePart(boolPart(true)), tuplePart(boolPart(true), intPart(-1)), tuplePart(textPart("\xff"), null()), tuplePart(make([]api.Part, 70)...)}
	seen := map[api.Errno]bool{}
	for what, s := range refusals() {
		bad := schema.Check(s)
		if bad == nil {
			t.Fatalf("%s: it may be", what)
		}
		seen[isFault(t, bad).Code] = true
		for _, p := range values {
			for _, a := range faces(p) {
				wantBad(t, x, s, a, &api.Fault{Code: api.ErrArg, Why: bad})
				wantBad(t, nil, s, a, wrong(api.ErrNil))
			}
		}
	}
	for code := api.ErrSchemaName; code <= api.ErrSchemaMany; code++ {
		if !seen[code] {
			t.Errorf("no schema is refused by %d", code)
		}
	}
	for _, p := range values { // of a schema that may be no tables are told first, too, though no text is weighed
		for _, a := range faces(p) {
			wantBad(t, nil, example(), a, wrong(api.ErrNil))
		}
	}
}

// TestKind is P16.1 (and P16.2, P16.3 with it): null, and each value that is no tuple.
func TestKind(t *testing.T) {
	x := odd(t)
	for k, l := range samples() {
		if k == api.Tuple {
			continue
		}
		for _, p := range append(l, null()) {
			for _, a := range faces(p) {
				wantBad(t, x, example(), a, wrong(api.ErrKind))
				wantBad(t, x, schemaOf(9, nulls(api.NullFirst, is(k))), a, wrong(api.ErrKind)) // it would be one of the field's
			}
		}
	}
}

// TestDeep is P16.1: more items than fields, ahead of all that is said of the items.
func TestDeep(t *testing.T) {
	x := odd(t)
	s := schemaOf(9, is(api.Bool), is(api.Bytes))
	yes := boolPart(true)
	for _, p := range []api.Part{tuplePart(yes, bytesPart(""), yes), tuplePart(null(), null(), null()), tuplePart(intPart(1), intPart(1), intPart(1), intPart(1)), tuplePart(yes, bytesPart(""), textPart("\xff"))} {
		for _, a := range faces(p) {
			wantBad(t, x, s, a, wrong(api.ErrSpanDeep))
		}
	}
	wantSpan(t, x, s, prefix(yes, bytesPart("")), fromTo("\x11\x01\x13\x00\x01", "\x11\x01\x13\x00\x02"))
	wantBad(t, x, s, prefix(yes, null()), wrongIn(api.ErrFitNull, 1))
}

// unfits is a schema, a tuple of it, and what is said of its items, each of which is otherwise than it may be.
func unfits() (api.Schema, []api.Part, []badItem) {
	s := schemaOf(1, is(api.Bool), bounded(num(-1), num(1)), most(2, is(api.Bytes)), most(3, is(api.Name)), is(api.Text), tupleOf(is(api.ID), down(tupleOf(nulls(api.NullFirst, is(api.Text))))), is(api.Bool))
	id := rawPart(api.ID, strings.Repeat("a", 16))
	good := []api.Part{boolPart(true), intPart(1), bytesPart("ab"), namePart("abc"), textPart("a"), tuplePart(id, tuplePart(null())), boolPart(true)}
	kind := wrong(api.ErrKind)
	return s, good, []badItem{
		{0, null(), api.Fault{Code: api.ErrFitNull, Path: []int{0}}},
		{0, intPart(0), api.Fault{Code: api.ErrFitKind, Path: []int{0}, Why: kind}},
		{0, tuplePart(boolPart(true)), api.Fault{Code: api.ErrFitKind, Path: []int{0}, Why: kind}},
		{1, intPart(2), api.Fault{Code: api.ErrFitRange, Path: []int{1}}},
		{1, intPart(-2), api.Fault{Code: api.ErrFitRange, Path: []int{1}}},
		{2, bytesPart("abc"), api.Fault{Code: api.ErrFitLong, Path: []int{2}}},
		{3, namePart("abcd"), api.Fault{Code: api.ErrFitLong, Path: []int{3}}},
		{3, namePart("a\xff"), api.Fault{Code: api.ErrFitUtf, At: 1, Path: []int{3}, Why: api.ErrUtfForm}},
		{4, textPart("ab\xc3"), api.Fault{Code: api.ErrFitUtf, At: 2, Path: []int{4}, Why: api.ErrUtfForm}},
		{4, namePart("a"), api.Fault{Code: api.ErrFitKind, Path: []int{4}, Why: kind}},
		{5, tuplePart(id), api.Fault{Code: api.ErrFitCount, Path: []int{5}}},
		{5, tuplePart(), api.Fault{Code: api.ErrFitCount, Path: []int{5}}},
		{5, tuplePart(null(), tuplePart(null())), api.Fault{Code: api.ErrFitNull, Path: []int{5, 0}}},
		{5, tuplePart(id, tuplePart()), api.Fault{Code: api.ErrFitCount, Path: []int{5, 1}}},
		{5, tuplePart(id, tuplePart(bytesPart(""))), api.Fault{Code: api.ErrFitKind, Path: []int{5, 1, 0}, Why: kind}},
		{5, tuplePart(id, tuplePart(textPart("abc\xe2\x82"))), api.Fault{Code: api.ErrFitUtf, At: 3, Path: []int{5, 1, 0}, Why: api.ErrUtfForm}},
	}
}

// badItem is an item that is none of the field's at its place, and what is said of it.
type badItem struct {
	place int
	p     api.Part
	want  api.Fault
}

// TestUnfit is P16.1 (and P16.2, P16.3 with it): an item that is none of its field's, in the first place, in a later one, deep within; as the last item, and with others behind it, of which what is wrong is not told.
func TestUnfit(t *testing.T) {
	x := odd(t)
	s, good, bads := unfits()
	for n := range len(good) + 1 {
		check(t, x, s, prefix(good[:n]...))
	}
	for _, c := range bads {
		for n := c.place + 1; n <= len(good); n++ {
			items := slices.Clone(good[:n])
			items[c.place] = c.p
			for _, a := range faces(tuplePart(items...)) {
				wantBad(t, x, s, a, &c.want)
			}
			for i := c.place + 1; i < n; i++ { // those behind are not asked, whatever they are
				items[i] = tuplePart(null(), null(), null())
			}
			for _, a := range faces(tuplePart(items...)) {
				wantBad(t, x, s, a, &c.want)
			}
		}
	}
}

// TestPrefixAny is P16.1: beginnings of schemas of every shape, and of other ones, held against the words.
func TestPrefixAny(t *testing.T) {
	x := odd(t)
	r := rand.New(rand.NewSource(161))
	refused := 0
	for range 3000 {
		s := anySchema(r, 1+r.Intn(4))
		check(t, x, s, prefix(anyBeginning(r, s)...))
		if _, is := check(t, x, s, prefix(anyBeginning(r, anySchema(r, 2))...)); !is {
			refused++
		}
	}
	if refused < 1000 || refused > 2900 {
		t.Errorf("%d are refused", refused)
	}
}

// anyBeginning is the first items of some tuple of a schema.
func anyBeginning(r *rand.Rand, s api.Schema) []api.Part {
	return anyTuple(r, s).Items[:r.Intn(len(s.Fields)+1)]
}

// roomy is a list with spare room, all of which a call must leave as it is.
func roomy[T any](l []T) []T { return append(make([]T, 0, len(l)+3), l...) }

// wantLeft: the spare room of such a list is as it was.
func wantLeft[T any](t *testing.T, l []T) {
	t.Helper()
	if cap(l) < len(l)+3 || !reflect.DeepEqual(l[len(l):len(l)+3], make([]T, 3)) {
		t.Errorf("the spare room is written into")
	}
}

// TestPrefixHandedIn is R2: nothing that is handed in is written into; what is answered does not hang on what was done to it since.
func TestPrefixHandedIn(t *testing.T) {
	x := odd(t)
	s, p, _ := everyKind()
	again, _, _ := everyKind()
	s.Fields = roomy(s.Fields)
	s.Fields[6].Fields = roomy(s.Fields[6].Fields)
	v := must(t, tuplePart(p.Items[:7]...))
	one, err := span.Prefix(x, s, v)
	two, bad := span.Prefix(x, s, v)
	if one != two || err != nil || bad != nil {
		t.Fatalf("%s, %s, %s, %s", hexes(one), told(err), hexes(two), told(bad))
	}
	if !reflect.DeepEqual(s, again) || !reflect.DeepEqual(value.Tell(v), tuplePart(p.Items[:7]...)) {
		t.Error("what was handed in is changed")
	}
	wantLeft(t, s.Fields)
	wantLeft(t, s.Fields[6].Fields)
}

// TestNewFaults is R2: a Fault is another one each time, and so are its path and what it comes of, whatever was done to the one before.
func TestNewFaults(t *testing.T) {
	x := odd(t)
	s := schemaOf(9, tupleOf(is(api.Text)), tupleOf(is(api.Text)), is(api.Int))
	good := tuplePart(textPart(""))
	bad := tuplePart(textPart("a\xff"))
	for _, a := range []ask{
		{call: "prefix"}, prefix(good, good, intPart(1), null()), prefix(intPart(1)), prefix(good, bad), bounds(tuplePart(good, good, intPart(1))),
		bounds(tuplePart(), above(api.Part{Kind: 9})), bounds(tuplePart(), above(intPart(1))), bounds(tuplePart(good), above(bad)), starts(tuplePart(good), ""),
	} {
		newEachTime(t, func() error { _, err := a.answer(t, x, s); return err })
		newEachTime(t, func() error { _, err := a.answer(t, nil, s); return err })
		newEachTime(t, func() error {
			_, err := a.answer(t, x, api.Schema{Limit: 9, Fields: []api.Field{named("A", is(api.Int))}})
			return err
		})
	}
}

// newEachTime: a call tells another Fault each time, and its path is no piece of another one's.
func newEachTime(t *testing.T, call func() error) {
	t.Helper()
	one, other := isFault(t, call()), isFault(t, call())
	if one == other || !sameError(one, other) {
		t.Errorf("%s, %s", told(one), told(other))
	}
	before := told(other)
	for i := range one.Path {
		one.Path[i] += 70
	}
	if inner, is := one.Why.(*api.Fault); is {
		for i := range inner.Path {
			inner.Path[i] += 80
		}
		inner.Code, inner.At = 7, 8
	}
	one.Code, one.At = 77, 78
	if told(other) != before || told(call()) != before {
		t.Errorf("%s; then %s, %s", before, told(other), told(call()))
	}
}
