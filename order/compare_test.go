package order

import (
	"bytes"
	"errors"
	"math"
	"math/rand"
	"slices"
	"strconv"
	"strings"
	"testing"

	"dovetail/api"
	"dovetail/value"
	"dovetail/weigh"
)

// TestCompareExamples is the chapter's table on Compare.
func TestCompareExamples(t *testing.T) {
	x := empty(t)
	s := of(is(api.Int), is(api.Name))
	row := func(n int64, name string) api.Part { return tuplePart(intPart(n), rawPart(api.Name, name)) }
	wantCompare(t, x, s, row(1, "b"), row(1, "a"), 1)
	wantCompare(t, x, s, row(1, "a"), row(2, "a"), -1)
	wantFault(t, refusedCompare(t, x, s, tuplePart(intPart(1)), row(1, "a")), api.ErrFitCount, api.OK)
}

// TestCompare is P13.2: the first items that are not the same say it, each by its own field.
func TestCompare(t *testing.T) {
	x := odd(t)
	s := of(nulls(api.NullFirst, is(api.Int)), down(nulls(api.NullFirst, is(api.Text))), down(tupleField("", nulls(api.NullFirst, is(api.Int)))))
	row := func(a, b, c api.Part) api.Part { return tuplePart(a, b, tuplePart(c)) }
	one, two, a, b := intPart(1), intPart(2), textPart("a"), textPart("b")
	wantCompare(t, x, s, row(one, a, one), row(one, a, one), 0)
	wantCompare(t, x, s, row(one, a, one), row(two, b, two), -1)
	wantCompare(t, x, s, row(one, a, two), row(one, b, one), 1)
	wantCompare(t, x, s, row(one, a, one), row(one, a, two), 1)
	wantCompare(t, x, s, row(null(), a, one), row(one, b, one), -1)
	wantCompare(t, x, s, row(one, null(), one), row(one, a, two), -1)
	wantCompare(t, x, s, row(one, a, null()), row(one, a, one), 1)
	wantCompare(t, x, s, row(null(), null(), null()), row(null(), null(), null()), 0)
	wantCompare(t, x, s, row(one, textPart("\u00e1"), one), row(one, textPart("a\u0301"), two), -1)
}

// TestCompareAny is P13.2: schemas of every shape, against the words; and a schema's tuples stand as those of a field that rises, and the other way round where it falls.
func TestCompareAny(t *testing.T) {
	x := odd(t)
	r := rand.New(rand.NewSource(133))
	for range 2000 {
		s := anySchema(r)
		p := anyTuple(r, s.Fields)
		for range 8 {
			q := nearTuple(r, s, p)
			if r.Intn(4) == 0 {
				q = anyTuple(r, s.Fields)
			}
			checkCompare(t, x, s, p, q)
			n, err := Compare(x, s, must(t, p), must(t, q))
			if err != nil {
				t.Fatal(told(err))
			}
			f := tupleField("a", s.Fields...)
			wantField(t, x, f, p, q, n)
			wantField(t, x, down(f), p, q, -n)
			wantField(t, x, nulls(api.NullLast, f), p, q, n)
			p = q
		}
	}
}

// TestCompareEdges is P13.2: a schema of 64 fields, and one whose paths have 16 places, though a tuple of them is no field.
func TestCompareEdges(t *testing.T) {
	x := empty(t)
	s := api.Schema{Limit: 1}
	var items []api.Part
	for i := range 64 {
		s.Fields = append(s.Fields, named("f"+strconv.Itoa(i), is(api.Int)))
		s.Fields[i].Down = i%2 == 1
		items = append(items, intPart(int64(i)))
	}
	wantCompare(t, x, s, tuplePart(items...), tuplePart(items...), 0)
	for i := range 64 {
		more := slices.Clone(items)
		more[i] = intPart(int64(i) + 1)
		for k := i + 1; k < 64; k++ { // what stands behind says nothing
			more[k] = intPart(-int64(k))
		}
		wantCompare(t, x, s, tuplePart(items...), tuplePart(more...), []int{-1, 1}[i%2])
	}
	wantFault(t, refusedField(t, x, tupleField("a", s.Fields...), tuplePart(items...), tuplePart(items...)), api.ErrArg, api.ErrSchemaMany)

	f, a, b := is(api.Bool), boolPart(false), boolPart(true)
	for range 15 {
		f, a, b = tupleField("a", f), tuplePart(a), tuplePart(b)
	}
	wantCompare(t, x, of(f), tuplePart(a), tuplePart(b), -1)
	wantCompare(t, x, of(down(f)), tuplePart(a), tuplePart(b), 1)
	wantCompare(t, x, of(f), tuplePart(a), tuplePart(a), 0)
	wantFault(t, refusedField(t, x, tupleField("a", f), tuplePart(a), tuplePart(b)), api.ErrArg, api.ErrSchemaDeep)
}

// TestCompareLimit is P13.2: the limit bears upon R5 alone; how long a key would be counts for nothing.
func TestCompareLimit(t *testing.T) {
	x := empty(t)
	long := strings.Repeat("a", 65535)
	a, b := tuplePart(rawPart(api.Bytes, long+"a")), tuplePart(rawPart(api.Bytes, long+"b"))
	for _, limit := range []int{math.MinInt, -1, 0, 1, 2, 65536, 65537, math.MaxInt} {
		s := of(is(api.Bytes))
		s.Limit = limit
		if limit >= 1 && limit <= 65536 {
			wantCompare(t, x, s, a, b, -1)
		} else {
			wantFault(t, refusedCompare(t, x, s, a, b), api.ErrArg, api.ErrSchemaRange)
		}
	}
}

// TestCompareNil is R5: nil tables come first, also where no text is to be weighed, and whatever else is wrong.
func TestCompareNil(t *testing.T) {
	for _, s := range []api.Schema{of(is(api.Int)), of(is(api.Text)), of(), {}, of(named("", is(api.Bool)), tupleField(""))} {
		for _, p := range []api.Part{null(), intPart(1), tuplePart(), tuplePart(intPart(1)), tuplePart(textPart("a"))} {
			wantFault(t, refusedCompare(t, nil, s, p, p), api.ErrNil, api.OK)
		}
	}
	var x *weigh.Tables
	if n, err := Compare(x, api.Schema{}, nil, nil); n != 0 || !errors.Is(err, api.ErrNil) || errors.Is(err, api.ErrArg) {
		t.Errorf("%d, %s", n, told(err))
	}
}

// TestCompareArg is R5: a schema that may not be, ahead of what is wrong with the values, with what schema.Check says of it.
func TestCompareArg(t *testing.T) {
	x := odd(t)
	many := api.Schema{Limit: 9}
	for i := range 65 {
		many.Fields = append(many.Fields, named("f"+strconv.Itoa(i), is(api.Bool)))
	}
	wrongs := []struct {
		s    api.Schema
		why  api.Errno
		path []int
	}{
		{api.Schema{}, api.ErrSchemaRange, nil},
		{api.Schema{Limit: 65537, Fields: []api.Field{is(api.Int)}}, api.ErrSchemaRange, nil},
		{of(), api.ErrSchemaEmpty, nil},
		{api.Schema{Limit: 9, Fields: []api.Field{{Kind: api.Int}}}, api.ErrSchemaName, []int{0}},
		{api.Schema{Limit: 9, Fields: []api.Field{is(api.Int), is(api.Int)}}, api.ErrSchemaTwice, []int{1}},
		{of(is(api.Bool), collated(api.Collate{Strength: 5, Shifted: true})), api.ErrSchemaRange, []int{1}},
		{of(is(api.Bool), tupleField("", is(api.Bool), tupleField("-"))), api.ErrSchemaName, []int{1, 1}},
		{of(is(api.Bool), tupleField("", is(api.Bool), tupleField("b"))), api.ErrSchemaEmpty, []int{1, 1}},
		{many, api.ErrSchemaMany, []int{64}},
	}
	for _, w := range wrongs {
		for _, a := range []api.Part{null(), boolPart(true), tuplePart(), tuplePart(intPart(1)), tuplePart(boolPart(true), textPart("\xff"))} {
			for _, b := range []api.Part{a, null(), tuplePart(intPart(2))} {
				bad := refusedCompare(t, x, w.s, a, b)
				wantFault(t, bad, api.ErrArg, w.why)
				if why, is := bad.Why.(*api.Fault); is {
					wantFault(t, why, w.why, api.OK, w.path...)
				} else {
					t.Errorf("%s: comes of no Fault", told(bad))
				}
			}
		}
	}
}

// TestCompareUnfit is P13.2: what fit.Check says of the first value, as it is, ahead of what it says of the second.
func TestCompareUnfit(t *testing.T) {
	x := odd(t)
	s := of(is(api.Int), tupleField("", lettered(is(api.Bool), is(api.Text))...))
	row := func(n int64, p api.Part) api.Part { return tuplePart(intPart(n), tuplePart(boolPart(true), p)) }
	good := row(1, textPart("a"))
	wrongs := []struct {
		p         api.Part
		code, why api.Errno
		at        int
		path      []int
	}{
		{null(), api.ErrFitNull, api.OK, 0, nil},
		{intPart(1), api.ErrFitKind, api.ErrKind, 0, nil},
		{tuplePart(), api.ErrFitCount, api.OK, 0, nil},
		{tuplePart(intPart(2), null()), api.ErrFitNull, api.OK, 0, []int{1}},
		{tuplePart(intPart(2), tuplePart()), api.ErrFitCount, api.OK, 0, []int{1}},
		{tuplePart(textPart("\xff"), good), api.ErrFitKind, api.ErrKind, 0, []int{0}},
		{row(2, null()), api.ErrFitNull, api.OK, 0, []int{1, 1}},
		{row(2, rawPart(api.Name, "a")), api.ErrFitKind, api.ErrKind, 0, []int{1, 1}},
		{row(2, textPart("abc\xe2\x82")), api.ErrFitUtf, api.ErrUtfForm, 3, []int{1, 1}},
	}
	for _, w := range wrongs {
		all := []*api.Fault{refusedCompare(t, x, s, w.p, good), refusedCompare(t, x, s, good, w.p)}
		for _, other := range wrongs {
			all = append(all, refusedCompare(t, x, s, w.p, other.p))
		}
		for _, bad := range all {
			wantFault(t, bad, w.code, w.why, w.path...)
			if bad.At != w.at {
				t.Errorf("%s, not at %d", told(bad), w.at)
			}
		}
	}
	wantCompare(t, x, s, good, good, 0)
}

// TestOrder is P13.3: it is an order, and 0 just where value.Same says so.
func TestOrder(t *testing.T) {
	x := odd(t)
	r := rand.New(rand.NewSource(134))
	compare := func(s api.Schema, a, b value.Value) int {
		n, err := Compare(x, s, a, b)
		if err != nil || n < -1 || n > 1 {
			t.Fatalf("%s: %d, %s", brief(s), n, told(err))
		}
		return n
	}
	for range 400 {
		s := anySchema(r)
		p := anyTuple(r, s.Fields)
		var all []value.Value
		for range 9 {
			all = append(all, must(t, p))
			p = nearTuple(r, s, p)
		}
		for _, a := range all {
			for _, b := range all {
				n := compare(s, a, b)
				if n != -compare(s, b, a) || (n == 0) != value.Same(a, b) {
					t.Fatalf("%s; %s, %s: %d", brief(s), brief(a.Part()), brief(b.Part()), n)
				}
				for _, c := range all {
					if n <= 0 && compare(s, b, c) <= 0 && compare(s, a, c) > 0 {
						t.Fatalf("%s; %s, %s, %s", brief(s), brief(a.Part()), brief(b.Part()), brief(c.Part()))
					}
				}
			}
		}
	}
}

// TestContrary is P13.4: of a field that falls, all else alike, and of values that are not null it is the contrary; where one is null it is as it was.
func TestContrary(t *testing.T) {
	x := odd(t)
	r := rand.New(rand.NewSource(135))
	for range 3000 {
		f := anyField(r, "a", 1+r.Intn(4))
		a := anyPart(r, f)
		b := near(r, f, a)
		v, w := must(t, a), must(t, b)
		n, err := Field(x, f, v, w)
		m, bad := Field(x, turned(f), v, w)
		want := -n
		if v == nil || w == nil {
			want = n
		}
		if m != want || err != nil || bad != nil {
			t.Fatalf("%s; %s, %s: %d, %s; turned %d, %s", brief(f), brief(a), brief(b), n, told(err), m, told(bad))
		}
	}
}

// TestUpToAPlace is P13.4: two tuples that are the same up to a place stand as their items there do.
func TestUpToAPlace(t *testing.T) {
	x := odd(t)
	r := rand.New(rand.NewSource(136))
	for range 3000 {
		s := anySchema(r)
		at := r.Intn(len(s.Fields))
		a, b := anyTuple(r, s.Fields), anyTuple(r, s.Fields)
		copy(b.Items[:at], a.Items)
		f := s.Fields[at]
		n, err := Field(x, f, must(t, a.Items[at]), must(t, b.Items[at]))
		if err != nil {
			t.Fatal(told(err))
		}
		if n != 0 {
			wantCompare(t, x, s, a, b, n)
			wantField(t, x, tupleField("a", s.Fields...), a, b, n)
		}
		copy(b.Items[at+1:], a.Items[at+1:])
		wantCompare(t, x, s, a, b, n)
	}
}

// TestKeyBytes is the ground of P13.5: it is the order of the bytes that DOC.md has for a key, written here by hand. (By package pack it is tested once that stands.)
func TestKeyBytes(t *testing.T) {
	x := odd(t)
	r := rand.New(rand.NewSource(137))
	key := func(s api.Schema, p api.Part) []byte {
		var all []byte
		for i, f := range s.Fields {
			all = append(all, plainKey(t, x, f, p.Items[i], false)...)
		}
		return all
	}
	for range 2000 {
		s := anySchema(r)
		p := anyTuple(r, s.Fields)
		for range 6 {
			q := nearTuple(r, s, p)
			wantCompare(t, x, s, p, q, bytes.Compare(key(s, p), key(s, q)))
			p = q
		}
	}
	all := risingNumbers()
	for _, f := range []api.Field{is(api.Int), down(is(api.Int))} {
		for _, a := range all {
			for _, b := range all {
				a, b := tuplePart(a), tuplePart(b)
				wantCompare(t, x, of(f), a, b, bytes.Compare(key(of(f), a), key(of(f), b)))
			}
		}
	}
}

// withRoom is a list of fields in other memory; in it, and in those within, another field lies behind the last one, in its spare room.
func withRoom(l []api.Field) []api.Field {
	if len(l) == 0 {
		return nil
	}
	more := append(slices.Clone(l), named("spare", is(api.Bool)))
	for i, f := range l {
		more[i].Fields = withRoom(f.Fields)
	}
	return more[:len(l)]
}

// isWithRoom tells whether all of that is there still.
func isWithRoom(l, was []api.Field) bool {
	if len(l) != len(was) || len(l) > 0 && !sameAlone(l[:len(l)+1][len(l)], named("spare", is(api.Bool))) {
		return false
	}
	for i := range l {
		if !sameAlone(l[i], was[i]) || !isWithRoom(l[i].Fields, was[i].Fields) {
			return false
		}
	}
	return true
}

// sameAlone tells whether two fields are the same, but for those within.
func sameAlone(f, g api.Field) bool {
	return f.Name == g.Name && f.Kind == g.Kind && f.Down == g.Down && f.Nulls == g.Nulls && f.Bounded == g.Bounded && f.Low == g.Low && f.High == g.High && f.Most == g.Most && f.Collate == g.Collate
}

// TestHandedIn is R2: no call writes into the lists that it is handed, nor into their spare room, nor keeps them; and the values stay what they are.
func TestHandedIn(t *testing.T) {
	x := odd(t)
	r := rand.New(rand.NewSource(138))
	for range 500 {
		s := anySchema(r)
		p := anyTuple(r, s.Fields)
		q := nearTuple(r, s, p)
		v, w := must(t, p), must(t, q)
		in := api.Schema{Limit: s.Limit, Fields: withRoom(s.Fields)}
		n, err := Compare(x, in, v, w)
		m, bad := Field(x, tupleField("a", in.Fields...), v, w)
		if err != nil || bad != nil || n != m || !isWithRoom(in.Fields, s.Fields) {
			t.Fatalf("%s; %s, %s: %d, %s; %d, %s", brief(s), brief(p), brief(q), n, told(err), m, told(bad))
		}
		if !value.Same(v, must(t, p)) || !value.Same(w, must(t, q)) {
			t.Fatalf("%s; %s, %s: a value has changed", brief(s), brief(p), brief(q))
		}
		for i := range in.Fields {
			in.Fields[i] = turned(in.Fields[i])
		}
		wantCompare(t, x, s, p, q, n)
	}
}

// TestFaults is R2: a Fault is another one each time, with what it comes of, and a path of its own.
func TestFaults(t *testing.T) {
	x := odd(t)
	s := of(is(api.Int), tupleField("", is(api.Text)))
	row := func(text string) value.Value { return must(t, tuplePart(intPart(1), tuplePart(textPart(text)))) }
	for _, call := range []func() (int, error){
		func() (int, error) { return Compare(nil, s, row("a"), row("a")) },
		func() (int, error) { return Compare(x, of(is(api.Bool), tupleField("")), row("a"), row("a")) },
		func() (int, error) { return Compare(x, s, row("\xff"), row("a")) },
		func() (int, error) { return Compare(x, s, row("a"), row("\xff")) },
		func() (int, error) { return Compare(x, s, row("a"), row("a").(value.List).At(1)) },
		func() (int, error) { return Field(nil, is(api.Int), nil, nil) },
		func() (int, error) { return Field(x, tupleField("a"), nil, nil) },
		func() (int, error) { return Field(x, tupleField("a", s.Fields...), row("\xff"), nil) },
		func() (int, error) { return Field(x, tupleField("a", s.Fields...), row("a"), row("a\xff")) },
	} {
		_, a := call()
		_, b := call()
		if a == nil || a == b {
			t.Fatalf("one Fault twice: %s", told(a))
		}
		before := told(b)
		spoil(a.(*api.Fault))
		_, c := call()
		if told(b) != before || told(c) != before {
			t.Errorf("Faults share memory: %s, %s, not %s", told(b), told(c), before)
		}
	}
}

// spoil changes all that a Fault has, its path's spare room too.
func spoil(f *api.Fault) {
	for i := range f.Path {
		f.Path[i] = -9
	}
	_ = append(f.Path, -9)
	if why, is := f.Why.(*api.Fault); is {
		spoil(why)
	}
	*f = api.Fault{}
}

// TestEnds is R1: fields and values that have others very many times over, and the longest texts, are done with soon.
func TestEnds(t *testing.T) {
	x := odd(t)
	wide := make([]value.Value, 1024)
	var v value.Value
	for range 16 {
		list, e := value.Of(wide...)
		if e != api.OK {
			t.Fatal(e)
		}
		for i := range wide {
			wide[i] = list
		}
		v = list
	}
	if n, err := Compare(x, of(is(api.Int)), v, v); n != 0 || !errors.Is(err, api.ErrFitCount) {
		t.Errorf("%d, %s", n, told(err))
	}
	if n, err := Field(x, is(api.Int), v, v); n != 0 || !errors.Is(err, api.ErrFitKind) {
		t.Errorf("%d, %s", n, told(err))
	}
	loop := make([]api.Field, 2)
	loop[0], loop[1] = tupleField("a"), named("b", is(api.Bool))
	loop[0].Fields = loop // a list that stands within itself
	if n, err := Compare(x, api.Schema{Limit: 9, Fields: loop}, v, v); n != 0 || !errors.Is(err, api.ErrArg) {
		t.Errorf("%d, %s", n, told(err))
	}
	if n, err := Field(x, loop[0], v, v); n != 0 || !errors.Is(err, api.ErrArg) {
		t.Errorf("%d, %s", n, told(err))
	}
	long := strings.Repeat("a", 65535)
	wantField(t, x, is(api.Text), textPart(long+"a"), textPart(long+"b"), -1)
	wantField(t, x, is(api.Text), textPart(long+"a"), textPart(long), 1)
	wantField(t, x, is(api.Text), textPart(long+"a"), textPart(long+"A"), -1)
	marks := strings.Repeat("\u0301\u0323", 16384)
	wantField(t, x, is(api.Text), textPart(marks), textPart(marks[2:]), 1)
}
