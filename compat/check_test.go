package compat_test

import (
	"math"
	"reflect"
	"slices"
	"strconv"
	"testing"

	"dovetail/api"
	"dovetail/compat"
	"dovetail/schema"
)

// TestExamples is the chapter's table.
func TestExamples(t *testing.T) {
	one := func(f api.Field) api.Schema { return schemaOf(64, f) }
	limited := func(n int, f api.Field) api.Schema { return schemaOf(n, f) }
	number, truth := is(api.Int), is(api.Bool)
	wantVerdict(t, one(number), one(nulls(api.NullFirst, number)), fits)
	wantVerdict(t, one(nulls(api.NullFirst, number)), one(nulls(api.NullLast, number)), against)
	wantVerdict(t, one(upTo(300)), one(upTo(255)), against)
	wantVerdict(t, limited(3, upTo(300)), one(upTo(255)), fits)
	wantVerdict(t, one(truth), schemaOf(64, truth, truth), against)
	wantVerdict(t, one(most(3, is(api.Bytes))), one(most(3, is(api.Name))), against)
	wantVerdict(t, one(collated(api.Collate{Strength: 2})), one(collated(api.Collate{Strength: 3})), against)
	wantVerdict(t, limited(64, truth), limited(63, truth), short)
	wantVerdict(t, limited(16, is(api.ID)), limited(16, truth), fits)

	v, _ := compat.Check(one(nulls(api.NullFirst, number)), one(nulls(api.NullLast, number)))
	if !reflect.DeepEqual(v.Witness, tuplePart(null())) {
		t.Errorf("%s", brief(v))
	}
	v, _ = compat.Check(one(upTo(300)), one(upTo(255)))
	if n := bigOf(v.Witness.Items[0].Num).Int64(); n < 256 || n > 300 {
		t.Errorf("%s", brief(v))
	}
}

// upTo is a field of Int from 0 on.
func upTo(n int64) api.Field { return bounded(num(0), num(n)) }

// TestWhole is DOC.md's example 6.
func TestWhole(t *testing.T) {
	p, q := schemaOf(64, upTo(300)), api.Schema{Limit: 64, Fields: []api.Field{named("z", nulls(api.NullLast, is(api.Int)))}}
	wantVerdict(t, p, q, fits)
	wantVerdict(t, q, p, against)
	wantVerdict(t, p, schemaOf(64, upTo(255)), against)
	wantVerdict(t, p, schemaOf(64, nulls(api.NullFirst, is(api.Int))), fits)
}

// refusals are schemas that may not be, one for each number that schema.Check has, also deep within.
func refusals() []api.Schema {
	limited := func(n int) api.Schema { return schemaOf(n, is(api.Bool)) }
	deep := is(api.Bool)
	for range 16 {
		deep = tupleOf(deep)
	}
	return []api.Schema{
		{}, limited(0), limited(-1), limited(65537), limited(math.MinInt), limited(math.MaxInt), schemaOf(8),
		many(65), schemaOf(8, deep), schemaOf(8, is(api.Bool), tupleOf(is(api.Bool), deep)),
		{Limit: 8, Fields: []api.Field{named("A", is(api.Bool))}},
		{Limit: 8, Fields: []api.Field{is(api.Bool), is(api.Bool)}},
		schemaOf(8, is(api.Bool), api.Field{Kind: 8}),
		schemaOf(8, api.Field{}),
		schemaOf(8, is(api.Bool), tupleOf(is(api.Bool), bounded(num(1), num(0)))),
		schemaOf(8, is(api.Bool), tupleOf(is(api.Bool), tupleOf(is(api.Bool), is(api.Bool), nulls(3, is(api.Bool))))),
		schemaOf(8, collated(api.Collate{Strength: 4})),
		schemaOf(8, is(api.Bool), api.Field{Kind: api.Tuple}),
		schemaOf(8, most(65537, is(api.Bytes))),
	}
}

// many is a schema of that many fields of Bool.
func many(n int) api.Schema {
	s := api.Schema{Limit: 2 * n}
	for i := range n {
		s.Fields = append(s.Fields, named("f"+strconv.Itoa(i), is(api.Bool)))
	}
	return s
}

// TestRefused is P17.1: schema.Check's Fault of the first schema, At 1, ahead of that of the second one, At 2; both ahead of all that they are to each other.
func TestRefused(t *testing.T) {
	seen := map[api.Errno]bool{}
	depths := map[int]bool{}
	var goods []api.Schema
	for k := api.Bool; k <= api.Tuple; k++ {
		goods = append(goods, schemaOf(8, is(k)), schemaOf(1, is(k), nulls(api.NullLast, is(k))))
	}
	for _, s := range refusals() {
		bad := isFault(t, schema.Check(s))
		seen[bad.Code], depths[len(bad.Path)] = true, true
		first := &api.Fault{Code: bad.Code, At: 1, Path: bad.Path}
		second := &api.Fault{Code: bad.Code, At: 2, Path: bad.Path}
		for _, good := range goods {
			wantBad(t, s, good, first)
			wantBad(t, good, s, second)
		}
		for _, other := range refusals() {
			wantBad(t, s, other, first)
		}
	}
	for code := api.ErrSchemaName; code <= api.ErrSchemaMany; code++ {
		if !seen[code] {
			t.Errorf("no schema is refused by %d", code)
		}
	}
	if !depths[0] || !depths[1] || !depths[2] || !depths[3] || !depths[17] {
		t.Errorf("paths of %v places", depths)
	}
}

// TestRefusedFar is R1: schemas that are far beyond all limits are refused, too.
func TestRefusedFar(t *testing.T) {
	f := is(api.Bool)
	for range 60000 {
		f = api.Field{Name: "a", Kind: api.Tuple, Fields: []api.Field{f}}
	}
	deep, good := schemaOf(8, f), schemaOf(8, is(api.Bool))
	path := make([]int, 17)
	wantBad(t, deep, good, &api.Fault{Code: api.ErrSchemaDeep, At: 1, Path: path})
	wantBad(t, good, deep, &api.Fault{Code: api.ErrSchemaDeep, At: 2, Path: path})
	wide := many(100000)
	wide.Limit = 8
	wantBad(t, wide, deep, &api.Fault{Code: api.ErrSchemaMany, At: 1, Path: []int{64}})
	wantBad(t, good, wide, &api.Fault{Code: api.ErrSchemaMany, At: 2, Path: []int{64}})
}

// TestNewFaults is R2: a Fault is another one each time, and its path is no piece of another one's.
func TestNewFaults(t *testing.T) {
	good := schemaOf(8, is(api.Bool))
	for _, s := range refusals() {
		for _, l := range [][2]api.Schema{{s, good}, {good, s}, {s, s}} {
			_, err := compat.Check(l[0], l[1])
			_, more := compat.Check(l[0], l[1])
			one, other := isFault(t, err), isFault(t, more)
			before := told(other)
			for i := range one.Path {
				one.Path[i] += 70
			}
			if one == other {
				t.Fatal("it is the same Fault")
			}
			one.Code, one.At = 77, 78
			_, again := compat.Check(l[0], l[1])
			if told(other) != before || told(again) != before {
				t.Errorf("%s; then %s, %s", before, told(other), told(again))
			}
		}
	}
}

// TestHandedIn is R2: nothing that is handed in is written into, nor its spare room; a witness is new memory each time, and hangs on nothing that was done to what was handed in.
func TestHandedIn(t *testing.T) {
	deep := func() api.Schema {
		inner := tupleOf(most(9, is(api.Bytes)), bounded(num(3), num(9)), nulls(api.NullFirst, is(api.Bool)))
		s := schemaOf(99, inner, is(api.Bool), tupleOf(inner, is(api.ID)))
		s.Fields = roomy(s.Fields)
		s.Fields[0].Fields = roomy(s.Fields[0].Fields)
		s.Fields[2].Fields = roomy(s.Fields[2].Fields)
		s.Fields[2].Fields[0].Fields = roomy(s.Fields[2].Fields[0].Fields)
		return s
	}
	others := []func(*api.Schema){
		func(s *api.Schema) {},
		func(s *api.Schema) { s.Limit = 5 },
		func(s *api.Schema) { s.Fields = s.Fields[:2] },
		func(s *api.Schema) { s.Fields[2].Fields[0].Fields[0].Most = 2 },
		func(s *api.Schema) { s.Fields[2].Fields[0].Fields[1].Low = num(4) },
		func(s *api.Schema) { s.Fields[2].Fields[0].Fields[2].Nulls = api.NullLast },
		func(s *api.Schema) { s.Fields[2].Fields[0].Fields[2].Down = true },
		func(s *api.Schema) { s.Fields[0].Fields = s.Fields[0].Fields[:1] },
	}
	for i, change := range others {
		s, to := deep(), deep()
		change(&to)
		before := deep()
		change(&before)
		one, err := compat.Check(s, to)
		two, bad := compat.Check(s, to)
		if err != nil || bad != nil || !reflect.DeepEqual(one, two) {
			t.Fatalf("%d: %s, %s; %s, %s", i, brief(one), told(err), brief(two), told(bad))
		}
		if !reflect.DeepEqual(s, deep()) || !reflect.DeepEqual(to, before) {
			t.Errorf("%d: what was handed in is changed", i)
		}
		for _, l := range [][]api.Field{s.Fields, s.Fields[0].Fields, s.Fields[2].Fields, s.Fields[2].Fields[0].Fields} {
			wantLeft(t, l)
		}
		spoil(one.Witness.Items)
		s.Fields[0].Fields[0].Name = "zz"
		three, _ := compat.Check(s, to)
		if !reflect.DeepEqual(two, three) {
			t.Errorf("%d: %s; then %s", i, brief(two), brief(three))
		}
	}
}

// spoil writes over all items, those within first.
func spoil(l []api.Part) {
	for i := range l {
		spoil(l[i].Items)
		l[i] = api.Part{Kind: 9}
	}
}

// roomy is a list with spare room, all of which a call must leave as it is.
func roomy[T any](l []T) []T { return append(make([]T, 0, len(l)+3), l...) }

// wantLeft: the spare room of such a list is as it was.
func wantLeft[T any](t *testing.T, l []T) {
	t.Helper()
	if cap(l) < len(l)+3 || !reflect.DeepEqual(l[len(l):len(l)+3], make([]T, 3)) {
		t.Errorf("the spare room is written into")
	}
}

// TestNames is P17.1: what the fields are called does not matter, neither at the top nor within.
func TestNames(t *testing.T) {
	s := schemaOf(64, is(api.Bool), tupleOf(is(api.Int), tupleOf(is(api.Name), is(api.ID))))
	to := api.Schema{Limit: 64, Fields: renamed(s.Fields)}
	wantNone(t, s, to)
	wantNone(t, to, s)
	to.Fields[1].Fields[1].Fields[1].Kind = api.Bool
	wantFrom(t, s, to, 2+2+2+2+3+17)
	swapped := schemaOf(64, is(api.Bool), is(api.Int)) // a name that stands at another place is no reason to go there
	swapped.Fields[0].Name, swapped.Fields[1].Name = "b", "a"
	wantNone(t, schemaOf(64, is(api.Bool), is(api.Int)), swapped)
	slices.Reverse(swapped.Fields)
	wantFrom(t, schemaOf(64, is(api.Bool), is(api.Int)), swapped, 4)
}

// renamed are the same fields, called otherwise.
func renamed(fields []api.Field) []api.Field {
	l := slices.Clone(fields)
	for i := range l {
		l[i].Name = "z-" + l[i].Name
		l[i].Fields = renamed(l[i].Fields)
	}
	return l
}
