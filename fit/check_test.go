package fit

import (
	"errors"
	"math"
	"math/rand"
	"slices"
	"testing"

	"dovetail/api"
	"dovetail/schema"
	"dovetail/value"
)

// checkCheck holds Check of a schema and a value against the chapter's words.
func checkCheck(t *testing.T, s api.Schema, p api.Part) {
	t.Helper()
	want := plainCheck(s, p)
	if err := Check(s, must(t, p)); !isFault(err, want) {
		t.Fatalf("%s, %s: %s, not %s", brief(s), brief(p), told(err), told(want))
	}
}

// wantCheck: Check of these is that Fault, and so the words have it.
func wantCheck(t *testing.T, s api.Schema, p api.Part, want *api.Fault) {
	t.Helper()
	if err := Check(s, must(t, p)); !isFault(err, want) {
		t.Errorf("%s, %s: %s, not %s", brief(s), brief(p), told(err), told(want))
	}
	if bad := plainCheck(s, p); (bad == nil) != (want == nil) || bad != nil && !isFault(bad, want) {
		t.Errorf("%s, %s: the words say %s", brief(s), brief(p), told(bad))
	}
}

// TestCheckExamples is the chapter's table on Check.
func TestCheckExamples(t *testing.T) {
	s := of(is(api.Bool), tupleField("t", is(api.Bool), named("b", is(api.Int))))
	yes, no := boolPart(true), boolPart(false)
	wantCheck(t, s, tuplePart(yes, tuplePart(no, rawPart(api.Bytes, "\x00"))), kindFault(1, 1))
	wantCheck(t, s, tuplePart(yes, tuplePart(no)), fault(api.ErrFitCount, 1))
	wantCheck(t, s, tuplePart(yes), fault(api.ErrFitCount))
	wantCheck(t, s, yes, kindFault())
	wantCheck(t, s, api.Part{}, fault(api.ErrFitNull))
	wantCheck(t, s, tuplePart(yes, tuplePart(no, intPart(3))), nil)
}

// TestCheckKinds is P12.2: what is no tuple is none of a schema's, and nor is null, whatever its fields say of it.
func TestCheckKinds(t *testing.T) {
	for k := api.Bool; k <= api.Tuple; k++ {
		for _, nulls := range []api.Nulls{api.NeverNull, api.NullFirst, api.NullLast} {
			s := of(withNulls(is(k), nulls))
			for of, p := range ofEach() {
				switch api.Kind(of) {
				case api.Null:
					wantCheck(t, s, p, fault(api.ErrFitNull))
				case api.Tuple:
					checkCheck(t, s, p)
				default:
					wantCheck(t, s, p, kindFault())
				}
				want := plainOne(s.Fields[0], p)
				if want != nil {
					want.Path = []int{0}
				}
				wantCheck(t, s, tuplePart(p), want)
			}
		}
	}
}

// TestCheckArg is R5: a schema that may not be, ahead of all that is wrong with the value, with what schema.Check says of it.
func TestCheckArg(t *testing.T) {
	deep, _ := wrapped(16, is(api.Bool), api.Part{})
	wrongs := []struct {
		s    api.Schema
		want *api.Fault
	}{
		{api.Schema{}, argFault(api.ErrSchemaRange)},
		{of(), argFault(api.ErrSchemaEmpty)},
		{api.Schema{Limit: 9, Fields: []api.Field{}}, argFault(api.ErrSchemaEmpty)},
		{of(named("", is(api.Bool))), argFault(api.ErrSchemaName, 0)},
		{of(is(api.Bool), is(api.Bool)), argFault(api.ErrSchemaTwice, 1)},
		{of(is(api.Bool), tupleField("b", bounded(num(1), num(0)))), argFault(api.ErrSchemaRange, 1, 0)},
		{of(is(api.Bool), tupleField("b")), argFault(api.ErrSchemaEmpty, 1)},
		{of(many(65)...), argFault(api.ErrSchemaMany, 64)},
		{of(deep), argFault(api.ErrSchemaDeep, slices.Repeat([]int{0}, 17)...)},
	}
	for _, w := range wrongs {
		for _, p := range append(ofEach(), tuplePart()) {
			wantCheck(t, w.s, p, w.want)
		}
		err, want := Check(w.s, nil), schema.Check(w.s)
		if !sameWhy(errors.Unwrap(err), want) || !errors.Is(err, api.ErrArg) || !errors.Is(err, want.(*api.Fault).Code) {
			t.Errorf("%s: %s", brief(w.s), told(err))
		}
	}
}

// TestCheckLimit is P12.2: the Limit bears upon R5 alone, and there upon Check alone.
func TestCheckLimit(t *testing.T) {
	fields := []api.Field{is(api.Text), named("b", most(api.Bytes, 65536))}
	good := tuplePart(rawPart(api.Text, "abc"), rawPart(api.Bytes, string(make([]byte, 60000))))
	values := []api.Part{good, {}, tuplePart(), tuplePart(rawPart(api.Text, "\xff"), api.Part{})}
	for _, limit := range []int{math.MinInt, -1, 0, 1, 2, 65535, 65536, 65537, math.MaxInt} {
		s := api.Schema{Limit: limit, Fields: fields}
		for _, p := range values {
			want := argFault(api.ErrSchemaRange)
			if limit >= 1 && limit <= 65536 {
				want = plainUnfit(tupleField("", fields...), p)
			}
			wantCheck(t, s, p, want)
			checkField(t, tupleField("a", fields...), p)
		}
	}
	wantField(t, tupleField("a", fields...), good, nil)
}

// TestCheckAsField is P12.2: what Field tells of a tuple that is never null, where it may be a field.
func TestCheckAsField(t *testing.T) {
	r := rand.New(rand.NewSource(122))
	for range 3000 {
		s := rightSchema(r)
		p := rightTuple(r, s.Fields)
		for range 5 {
			checkCheck(t, s, p)
			f := tupleField("a", s.Fields...)
			f.Down = r.Intn(2) == 0
			v := must(t, p)
			a, b := Check(s, v), Field(f, v)
			if !sameWhy(a, b) {
				t.Fatalf("%s, %s: %s, but of the field %s", brief(s), brief(p), told(a), told(b))
			}
			p = changed(r, p)
		}
	}
}

// TestCheckEdges is P12.2: a schema of 64 fields, and one whose paths have 16 places, though its tuple is no field.
func TestCheckEdges(t *testing.T) {
	s := of(many(64)...)
	items := slices.Repeat([]api.Part{boolPart(true)}, 64)
	wantCheck(t, s, tuplePart(items...), nil)
	wantCheck(t, s, tuplePart(items[1:]...), fault(api.ErrFitCount))
	wantCheck(t, s, tuplePart(append(items[1:], api.Part{})...), fault(api.ErrFitNull, 63))
	wantField(t, tupleField("a", s.Fields...), tuplePart(items...), argFault(api.ErrSchemaMany, 0, 63))

	path := slices.Repeat([]int{0}, 16)
	f, p := wrapped(15, is(api.Bool), boolPart(true))
	wantCheck(t, of(f), tuplePart(p), nil)
	wantField(t, tupleField("a", f), tuplePart(p), argFault(api.ErrSchemaDeep, append(path, 0)...))
	f, p = wrapped(15, is(api.Bool), intPart(0))
	wantCheck(t, of(f), tuplePart(p), kindFault(path...))
	f, p = wrapped(15, is(api.Bool), api.Part{})
	wantCheck(t, of(f), tuplePart(p), fault(api.ErrFitNull, path...))
	wantCheck(t, of(f), p, fault(api.ErrFitNull, path[1:]...)) // a tuple less
	wantCheck(t, of(f), tuplePart(tuplePart(boolPart(true))), kindFault(0, 0))
	f, p = wrapped(14, is(api.Tuple), tuplePart())
	wantCheck(t, of(f), tuplePart(p), fault(api.ErrFitCount, path[1:]...))
}

// TestPath is P12.4: the path leads to what is wrong there, or to the tuple of another count: of it alone the same is told, and of all ahead of it nothing.
func TestPath(t *testing.T) {
	r := rand.New(rand.NewSource(124))
	deepest := 0
	for range 3000 {
		s := rightSchema(r)
		p := rightTuple(r, s.Fields)
		for range 1 + r.Intn(3) {
			p = changed(r, p)
		}
		v := must(t, p)
		bad, is := Check(s, v).(*api.Fault)
		if !is || len(bad.Path) == 0 {
			continue
		}
		deepest = max(deepest, len(bad.Path))
		f, found := schema.Find(s, bad.Path)
		fields := s.Fields
		for _, i := range bad.Path {
			list, isList := value.AsList(v)
			if !isList || list.Len() != len(fields) || !found {
				t.Fatalf("%s, %s: %v leads nowhere", brief(s), brief(p), bad.Path)
			}
			for k := range i {
				if err := Field(fields[k], list.At(k)); err != nil {
					t.Fatalf("%s, %s: %s, but item %d ahead of it: %s", brief(s), brief(p), told(bad), k, told(err))
				}
			}
			v, fields = list.At(i), fields[i].Fields
		}
		want := *bad
		want.Path = nil
		if err := Field(f, v); !isFault(err, &want) {
			t.Fatalf("%s, %s: %s, but there %s", brief(s), brief(p), told(bad), told(err))
		}
	}
	if deepest < 4 {
		t.Errorf("no path of more than %d places", deepest)
	}
}

// TestOtherwise is P12.4: a value of a field is one, too, where the field falls, has another name, or stands otherwise with nulls; and what is none is none for the same reason.
func TestOtherwise(t *testing.T) {
	r := rand.New(rand.NewSource(125))
	for range 3000 {
		f := rightField(r, "a", 1+r.Intn(4))
		p := rightPart(r, f)
		for range 3 {
			g := f
			g.Name, g.Down, g.Nulls = "other", !f.Down, api.Nulls(r.Intn(3))
			v := must(t, p)
			a, b := Field(f, v), Field(g, v)
			if v != nil && !sameWhy(a, b) {
				t.Fatalf("%s, %s: %s; otherwise %s", brief(f), brief(p), told(a), told(b))
			}
			if v == nil && (b == nil) != (g.Nulls != api.NeverNull) {
				t.Fatalf("%s, null: %s", brief(g), told(b))
			}
			p = changed(r, p)
		}
	}
}

// TestCheckMemory is R2: no call writes into the lists that it is handed, nor into their spare room; a Fault is another one each time, with a path of its own.
func TestCheckMemory(t *testing.T) {
	r := rand.New(rand.NewSource(126))
	for range 400 {
		s := rightSchema(r)
		p := rightTuple(r, s.Fields)
		for range 4 {
			in, v := withRoom(s.Fields), must(t, p)
			Check(api.Schema{Limit: s.Limit, Fields: in}, v)
			Field(tupleField("a", in...), v)
			Field(in[0], v)
			Least(tupleField("a", in...))
			if !isWithRoom(in, s.Fields) {
				t.Fatalf("%s, %s: written into", brief(s), brief(p))
			}
			a, b := Check(s, v), Check(s, v)
			if a != nil && a == b {
				t.Fatal("one Fault twice")
			}
			if bad, is := a.(*api.Fault); is {
				want := plainCheck(s, p)
				spoil(bad)
				if c := Check(s, v); !isFault(b, want) || !isFault(c, want) {
					t.Fatalf("%s, %s: Faults share memory: %s, %s", brief(s), brief(p), told(b), told(c))
				}
			}
			p = changed(r, p)
		}
	}
	// also of R5's, with what they come of
	for _, call := range []func() error{
		func() error { return Check(of(is(api.Bool), tupleField("b")), nil) },
		func() error { return Field(tupleField("b"), nil) },
		func() error { return Field(is(api.Bool), must(t, intPart(1))) },
	} {
		a, b := call(), call()
		if a == b || errors.Unwrap(a) == errors.Unwrap(b) {
			t.Error("one Fault twice")
		}
		before := told(b)
		spoil(a.(*api.Fault))
		if told(b) != before || told(call()) != before {
			t.Errorf("Faults share memory: %s, %s", told(b), told(call()))
		}
	}
}

// spoil changes all that a Fault has, its path's spare room too.
func spoil(f *api.Fault) {
	for i := range f.Path {
		f.Path[i] = -9
	}
	_ = append(f.Path, -9)
	if why, is := f.Why.(*api.Fault); is {
		spoil(why)
	}
	*f = api.Fault{}
}

// withRoom is a list of fields in other memory; in it, and in those within, another field lies behind the last one, in its spare room.
func withRoom(l []api.Field) []api.Field {
	if len(l) == 0 {
		return nil
	}
	more := append(slices.Clone(l), named("spare", is(api.Bool)))
	for i, f := range l {
		more[i].Fields = withRoom(f.Fields)
	}
	return more[:len(l)]
}

// isWithRoom tells whether all of that is there still.
func isWithRoom(l, was []api.Field) bool {
	if len(l) != len(was) || len(l) > 0 && !sameAlone(l[:len(l)+1][len(l)], named("spare", is(api.Bool))) {
		return false
	}
	for i := range l {
		if !sameAlone(l[i], was[i]) || !isWithRoom(l[i].Fields, was[i].Fields) {
			return false
		}
	}
	return true
}

// sameAlone tells whether two fields are the same, but for those within.
func sameAlone(f, g api.Field) bool {
	return f.Name == g.Name && f.Kind == g.Kind && f.Down == g.Down && f.Nulls == g.Nulls && f.Bounded == g.Bounded && f.Low == g.Low && f.High == g.High && f.Most == g.Most && f.Collate == g.Collate
}

// TestEnds is R1: fields and values that have others very many times over are done with soon.
func TestEnds(t *testing.T) {
	fields := many(64)
	for range 40 {
		for i := range fields {
			fields[i] = tupleField(fields[i].Name, slices.Clone(fields)...)
		}
	}
	wide := make([]value.Value, 1024)
	var v value.Value
	for range 16 {
		list, e := value.Of(wide...)
		if e != api.OK {
			t.Fatal(e)
		}
		for i := range wide {
			wide[i] = list
		}
		v = list
	}
	for _, err := range []error{Check(of(fields...), v), Field(fields[0], v)} {
		if codeOf(err) != api.ErrArg {
			t.Error(told(err))
		}
	}
	if _, e := Least(fields[0]); e != api.ErrArg {
		t.Error(e)
	}
	if err := Check(of(many(64)...), v); !isFault(err, fault(api.ErrFitCount)) {
		t.Error(told(err))
	}
	two, _ := value.Of(v.(value.List).At(0), v.(value.List).At(0))
	if err := Check(of(is(api.Tuple), named("b", is(api.Tuple))), two); !isFault(err, fault(api.ErrFitCount, 0)) {
		t.Error(told(err))
	}
	if err := Check(of(is(api.Int)), v); !isFault(err, fault(api.ErrFitCount)) {
		t.Error(told(err))
	}
	if err := Field(is(api.Int), v); !isFault(err, kindFault()) {
		t.Error(told(err))
	}
	loop := make([]api.Field, 2)
	loop[0], loop[1] = tupleField("a", loop...), named("b", is(api.Bool))
	loop[0].Fields = loop // a list that stands within itself
	if err := Check(of(loop...), v); codeOf(err) != api.ErrArg {
		t.Error(told(err))
	}
	if err := Field(loop[0], nil); codeOf(err) != api.ErrArg {
		t.Error(told(err))
	}
}
