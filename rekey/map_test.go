package rekey_test

import (
	"errors"
	"math"
	"math/rand"
	"reflect"
	"slices"
	"strings"
	"testing"

	"dovetail/api"
	"dovetail/rekey"
	"dovetail/value"
)

// example is the tuple of the chapter's examples.
func example() api.Part { return tuplePart(intPart(1), bytesPart("x"), null()) }

// TestMapExamples is the chapter's table.
func TestMapExamples(t *testing.T) {
	v := example()
	wantMap(t, from(2, 0, 0), v, tuplePart(null(), intPart(1), intPart(1)))
	wantMap(t, []api.Source{own(boolPart(true)), {Field: 1}}, v, tuplePart(boolPart(true), bytesPart("x")))
	wantUnmapped(t, from(3), v, wrong(0))
	wantUnmapped(t, from(0, 5), v, wrong(1))
	wantUnmapped(t, []api.Source{own(api.Part{Kind: 9})}, v, wrongPart(0, api.ErrValueForm))
	wantMap(t, nil, v, tuplePart())
	wantMap(t, []api.Source{}, v, tuplePart())
	for _, p := range []api.Part{null(), boolPart(false), boolPart(true)} {
		for _, l := range [][]api.Source{nil, from(0), from(3), {own(null())}} {
			wantUnmapped(t, l, p, &api.Fault{Code: api.ErrKind})
		}
	}
}

// unmade are parts that value.Make refuses, by the number that it tells.
func unmade() map[api.Errno][]api.Part {
	bad := api.Part{Kind: 9}
	return map[api.Errno][]api.Part{
		api.ErrValueForm: {
			bad, {Kind: 8}, {Kind: 255}, {Yes: true}, {Num: num(1)}, {Raw: "a"}, {Items: []api.Part{{}}},
			{Kind: api.Bool, Raw: "a"}, {Kind: api.Bool, Num: num(1)}, {Kind: api.Bool, Items: []api.Part{{}}},
			{Kind: api.Int, Num: api.Num{Below: true}}, {Kind: api.Int, Num: api.Num{Mag: "\x00"}}, {Kind: api.Int, Num: api.Num{Mag: "\x00\x01"}},
			{Kind: api.Int, Yes: true}, {Kind: api.Int, Num: api.Num{Mag: strings.Repeat("\x01", 256)}},
			rawPart(api.Bytes, strings.Repeat("a", 65537)), rawPart(api.Name, strings.Repeat("a", 65537)), rawPart(api.Text, strings.Repeat("a", 65537)),
			{Kind: api.Bytes, Yes: true}, {Kind: api.Name, Num: num(1)}, {Kind: api.Text, Items: []api.Part{{}}},
			rawPart(api.ID, ""), rawPart(api.ID, strings.Repeat("a", 15)), rawPart(api.ID, strings.Repeat("a", 17)),
			{Kind: api.Tuple, Raw: "a"}, {Kind: api.Tuple, Yes: true}, tuplePart(make([]api.Part, 1025)...),
			tuplePart(bad), nested(14, bad), nested(15, bad), nested(16, bad), tuplePart(nested(15, null()), bad),
		},
		api.ErrValueDeep: {
			nested(17, null()), nested(17, bad), nested(18, intPart(1)), nested(1000, bad), nested(16, tuplePart()),
			tuplePart(bad, nested(16, null())),
		},
	}
}

// TestMapKind is P18.1: what is no tuple, null too, is told ahead of all that may be wrong with the sources.
func TestMapKind(t *testing.T) {
	none := []api.Part{
		null(), boolPart(false), boolPart(true), intPart(0), intPart(-7), bytesPart(""), bytesPart("a"),
		rawPart(api.ID, strings.Repeat("a", 16)), namePart("a"), textPart("a"),
	}
	sources := [][]api.Source{
		nil, from(0), from(-1), from(7, 7), all(1024), all(1025), make([]api.Source, 5000),
		{own(api.Part{Kind: 9})}, {own(nested(16, null()))}, {own(nested(17, null()))}, {own(boolPart(true))},
	}
	for _, p := range none {
		for _, l := range sources {
			wantUnmapped(t, l, p, &api.Fault{Code: api.ErrKind})
		}
	}
	// the interface that holds nothing
	if v, err := rekey.Map(nil, nil); v != nil || !errors.Is(err, api.ErrKind) || errors.Is(err, api.ErrRekeyMap) {
		t.Errorf("%v, %s", v, told(err))
	}
	wantMap(t, nil, tuplePart(), tuplePart())
}

// TestMapMany is P18.1: 1024 sources may be, of however few items, and none more, whatever they are.
func TestMapMany(t *testing.T) {
	v := example()
	for _, n := range []int{0, 1, 2, 1023, 1024} {
		want := api.Part{Kind: api.Tuple}
		for range n {
			want.Items = append(want.Items, bytesPart("x"))
		}
		wantMap(t, from(slices.Repeat([]int{1}, n)...), v, want)
		wantMap(t, slices.Repeat([]api.Source{own(bytesPart("x"))}, n), v, want)
		if n > 0 {
			wantUnmapped(t, append(from(slices.Repeat([]int{1}, n-1)...), api.Source{Field: 3}), v, wrong(n-1))
			wantUnmapped(t, append(from(slices.Repeat([]int{1}, n-1)...), own(api.Part{Kind: 9})), v, wrongPart(n-1, api.ErrValueForm))
		}
	}
	for _, n := range []int{1025, 1026, 2048, 70000} {
		wantUnmapped(t, make([]api.Source, n), v, wrong(1024))
		wantUnmapped(t, from(slices.Repeat([]int{3}, n)...), v, wrong(1024)) // ahead of a wrong source
		wantUnmapped(t, slices.Repeat([]api.Source{own(api.Part{Kind: 9})}, n), v, wrong(1024))
		wantUnmapped(t, make([]api.Source, n), tuplePart(), wrong(1024))
	}
	wide := tuplePart(slices.Repeat([]api.Part{intPart(3)}, 1024)...)
	wide.Items[1023] = boolPart(true)
	wantMap(t, all(1024), wide, wide)
	wantMap(t, from(1023), wide, tuplePart(boolPart(true)))
	wantUnmapped(t, from(0, 1024), wide, wrong(1))
	wantUnmapped(t, append(all(1024), api.Source{}), wide, wrong(1024))
}

// TestMapPlaces is P18.1: a Field is the place of an item, the last one's too; none past it, however far.
func TestMapPlaces(t *testing.T) {
	for _, n := range []int{0, 1, 2, 3, 7, 64, 1023, 1024} {
		p := api.Part{Kind: api.Tuple}
		for i := range n {
			p.Items = append(p.Items, intPart(int64(i)))
		}
		for _, place := range []int{0, 1, n / 2, n - 2, n - 1} {
			if place >= 0 && place < n {
				wantMap(t, from(place), p, tuplePart(intPart(int64(place))))
				wantMap(t, from(place, 0, place), p, tuplePart(intPart(int64(place)), intPart(0), intPart(int64(place))))
			}
		}
		for _, place := range []int{n, n + 1, n + 2, 1024, 1025, 65536, math.MaxInt32, math.MaxInt - 1, math.MaxInt} {
			if place >= n {
				wantUnmapped(t, from(place), p, wrong(0))
			}
			if place >= n && n > 0 {
				wantUnmapped(t, from(0, n-1, place, place), p, wrong(2))
			}
		}
	}
	every := tuplePart(null(), boolPart(true), intPart(-300), bytesPart("\x00\xff"), rawPart(api.ID, "0123456789abcdef"), namePart("\xff"), textPart("a\u0301"), tuplePart(), tuplePart(null(), tuplePart(null())), nested(15, null()))
	for i, p := range every.Items {
		wantMap(t, from(i), every, tuplePart(p))
		wantMap(t, from(i, 0, i), every, tuplePart(p, null(), p))
	}
	for row := range rowsOf([]int{0, 3, 7, 9}) {
		wantMap(t, from(row...), every, tuplePart(every.Items[row[0]], every.Items[row[1]], every.Items[row[2]], every.Items[row[3]]))
	}
}

// rowsOf are all ways to tell the elements of a list.
func rowsOf[T any](l []T) func(func([]T) bool) {
	return func(yield func([]T) bool) {
		var grow func(row, left []T) bool
		grow = func(row, left []T) bool {
			if len(left) == 0 {
				return yield(row)
			}
			for i := range left {
				if !grow(append(slices.Clone(row), left[i]), slices.Delete(slices.Clone(left), i, i+1)) {
					return false
				}
			}
			return true
		}
		grow(nil, l)
	}
}

// belows are numbers below 0, near and far.
func belows() []int {
	return []int{-1, -2, -3, -1024, -65536, math.MinInt32, math.MinInt + 1, math.MinInt}
}

// TestMapOwn is P18.1: with a Field below 0, whichever, the value of the Part, as deep as an item may be.
func TestMapOwn(t *testing.T) {
	good := []api.Part{
		null(), boolPart(false), boolPart(true), intPart(0), intPart(-1), numPart(api.Num{Mag: strings.Repeat("\xff", 255)}),
		bytesPart(""), bytesPart(strings.Repeat("\x00", 65536)), rawPart(api.ID, strings.Repeat("\xff", 16)), namePart("\xff"), textPart("\xff"), textPart(strings.Repeat("a", 65536)),
		tuplePart(), tuplePart(null()), tuplePart(make([]api.Part, 1024)...), {Kind: api.Tuple, Items: []api.Part{}},
		nested(14, tuplePart()), nested(15, null()), nested(15, intPart(7)), tuplePart(null(), nested(14, null())),
	}
	for _, p := range good {
		for _, n := range belows() {
			s := api.Source{Field: n, Part: p}
			wantMap(t, []api.Source{s}, tuplePart(), tuplePart(p))
			wantMap(t, []api.Source{{Field: 1}, s, {Field: 0}, s}, example(), tuplePart(bytesPart("x"), p, intPart(1), p))
		}
	}
}

// TestMapUnmade is P18.1: a Part that value.Make refuses, by the number that it tells; and one that is 16 deep, which may be a value, and no item.
func TestMapUnmade(t *testing.T) {
	refused := func(p api.Part, why api.Errno) {
		t.Helper()
		for _, n := range belows() {
			s := api.Source{Field: n, Part: p}
			wantUnmapped(t, []api.Source{s}, tuplePart(), wrongPart(0, why))
			wantUnmapped(t, []api.Source{{}, s, s}, example(), wrongPart(1, why))
			wantUnmapped(t, []api.Source{{}, {Field: 2}, own(null()), s, {Field: 3}}, example(), wrongPart(3, why))
		}
	}
	for code, l := range unmade() {
		for _, p := range l {
			if _, e := value.Make(p); e != code {
				t.Fatalf("%s: %d", brief(p), e)
			}
			refused(p, code)
		}
	}
	for _, p := range []api.Part{nested(16, null()), nested(16, textPart("a")), nested(15, tuplePart()), tuplePart(null(), nested(15, boolPart(true)), intPart(1))} {
		if _, e := value.Make(p); e != api.OK || plainDepth(p) != 16 {
			t.Fatalf("%s: %d", brief(p), e)
		}
		refused(p, api.ErrValueDeep)
	}
}

// TestMapUnasked is P18.1: a Part is not looked at where the Field is not below 0, whether that may be or not.
func TestMapUnasked(t *testing.T) {
	parts := []api.Part{boolPart(true), tuplePart(null()), nested(15, null()), nested(16, null())}
	for _, l := range unmade() {
		parts = append(parts, l...)
	}
	for _, p := range parts {
		wantMap(t, []api.Source{{Field: 1, Part: p}, {Field: 0, Part: p}}, example(), tuplePart(bytesPart("x"), intPart(1)))
		wantUnmapped(t, []api.Source{{Field: 2, Part: p}, {Field: 3, Part: p}}, example(), wrong(1))
		wantUnmapped(t, []api.Source{{Field: 0, Part: p}}, tuplePart(), wrong(0))
	}
}

// sourceKind is a source, whether it is wrong with the tuple of the examples, and what that comes of.
type sourceKind struct {
	s   api.Source
	why error
	bad bool
}

// TestMapFirst is P18.1: of several wrong sources the first one is told, of which sort that ever is.
func TestMapFirst(t *testing.T) {
	kinds := []sourceKind{
		{api.Source{Field: 3}, nil, true},
		{own(api.Part{Kind: 9}), api.ErrValueForm, true},
		{own(nested(16, null())), api.ErrValueDeep, true},
		{own(nested(17, api.Part{Kind: 9})), api.ErrValueDeep, true},
		{api.Source{Field: 2}, nil, false},
		{own(boolPart(true)), nil, false},
	}
	for row := range rowsOf(kinds) {
		var l []api.Source
		for _, k := range row {
			l = append(l, k.s)
		}
		i := slices.IndexFunc(row, func(k sourceKind) bool { return k.bad })
		wantUnmapped(t, l, example(), &api.Fault{Code: api.ErrRekeyMap, At: i, Why: row[i].why})
	}
}

// TestMapWhy is P18.1: what a Fault comes of is found by errors.Is and errors.As, and nothing else is.
func TestMapWhy(t *testing.T) {
	for _, c := range []struct {
		l    []api.Source
		v    api.Part
		code api.Errno
		why  api.Errno
	}{
		{nil, null(), api.ErrKind, api.OK},
		{all(1025), example(), api.ErrRekeyMap, api.OK},
		{from(3), example(), api.ErrRekeyMap, api.OK},
		{[]api.Source{own(api.Part{Kind: 9})}, example(), api.ErrRekeyMap, api.ErrValueForm},
		{[]api.Source{own(nested(16, null()))}, example(), api.ErrRekeyMap, api.ErrValueDeep},
		{[]api.Source{own(nested(17, null()))}, example(), api.ErrRekeyMap, api.ErrValueDeep},
	} {
		_, err := rekey.Map(c.l, must(t, c.v))
		for _, code := range []api.Errno{api.ErrArg, api.ErrLong, api.ErrNil, api.ErrKind, api.ErrValueForm, api.ErrValueDeep, api.ErrRekeyMap} {
			if want := code == c.code || code == c.why; errors.Is(err, code) != want {
				t.Errorf("%s is %d: %v", told(err), code, !want)
			}
		}
		var why api.Errno
		if errors.As(err, &why) != (c.why != api.OK) || why != c.why {
			t.Errorf("%s comes of %d, not of %d", told(err), why, c.why)
		}
		if bad := isFault(t, err); len(bad.Path) != 0 {
			t.Errorf("%s", told(err))
		}
	}
}

// TestMapAny is P18.1: sources of every sort, on tuples of every shape, held against the words.
func TestMapAny(t *testing.T) {
	r := rand.New(rand.NewSource(181))
	made, unmade := 0, 0
	for range 20000 {
		p := anyTuple(r, anySchema(r, 1+r.Intn(4)))
		if check(t, anySources(r, len(p.Items), r.Intn(7)), p) {
			made++
		} else {
			unmade++
		}
	}
	if made < 2000 || unmade < 2000 {
		t.Errorf("%d tuples, %d Faults", made, unmade)
	}
}

// anySources are so many sources of tuples of n items, seldom a wrong one among them.
func anySources(r *rand.Rand, n, many int) []api.Source {
	var l []api.Source
	for range many {
		s := api.Source{Field: r.Intn(n)}
		switch r.Intn(16) {
		case 0:
			s.Field = n + r.Intn(2)
		case 1:
			s.Part = api.Part{Kind: api.Kind(r.Intn(10))}
		case 2:
			s = api.Source{Field: -1 - r.Intn(3), Part: api.Part{Kind: api.Kind(r.Intn(9))}}
		case 3:
			s = own(nested(14+r.Intn(4), anyPart(r, someField(r, "a", 1))))
		case 4, 5, 6, 7:
			s = own(anyPart(r, someField(r, "a", 3)))
		}
		l = append(l, s)
	}
	return l
}

// TestMapDeep is P18.1: a tuple that is 16 deep itself is taken as any other one; its items stand as deep as they stood.
func TestMapDeep(t *testing.T) {
	for n := 1; n <= 16; n++ {
		p := nested(n, boolPart(true))
		wantMap(t, from(0), p, p)
		wantMap(t, []api.Source{own(nested(15, null())), {}}, p, tuplePart(nested(15, null()), p.Items[0]))
		wantUnmapped(t, []api.Source{{}, own(nested(16, null()))}, p, wrongPart(1, api.ErrValueDeep))
	}
	v, err := rekey.Map([]api.Source{{}, {}, own(nested(15, null()))}, must(t, nested(16, null())))
	if err != nil || value.Depth(v) != 16 {
		t.Errorf("%d deep, %s", value.Depth(v), told(err))
	}
}

// roomy is a list with spare room for three more.
func roomy[T any](l []T) []T { return append(make([]T, 0, len(l)+3), l...) }

// wantLeft: the spare room of such a list is as it was.
func wantLeft[T any](t *testing.T, l []T) {
	t.Helper()
	if cap(l) < len(l)+3 || !reflect.DeepEqual(l[len(l):len(l)+3], make([]T, 3)) {
		t.Errorf("the spare room is written into")
	}
}

// TestMapHandedIn is R2: nothing is written into, nor kept; what comes out is changed by nothing that is done to what went in, or to what either tuple told.
func TestMapHandedIn(t *testing.T) {
	inner := roomy([]api.Part{intPart(5), null()})
	items := roomy([]api.Part{boolPart(true), {Kind: api.Tuple, Items: inner}})
	l := roomy([]api.Source{{Field: 1, Part: api.Part{Kind: 9}}, own(api.Part{Kind: api.Tuple, Items: items}), {Field: 0}})
	before := []api.Source{{Field: 1, Part: api.Part{Kind: 9}}, own(tuplePart(boolPart(true), tuplePart(intPart(5), null()))), {Field: 0}}
	old := tuplePart(tuplePart(namePart("a")), tuplePart(textPart("b"), null()))
	v := must(t, old)
	want := tuplePart(old.Items[1], before[1].Part, old.Items[0])
	made, err := rekey.Map(l, v)
	if err != nil || !sameParts(value.Tell(made), want) {
		t.Fatalf("%s, %s", brief(value.Tell(made)), told(err))
	}
	if !reflect.DeepEqual(l, before) {
		t.Errorf("%s is changed", brief(l))
	}
	wantLeft(t, l)
	wantLeft(t, items)
	wantLeft(t, inner)
	spoil(inner)
	spoil(items)
	clear(l)
	spoil(value.Tell(v).Items)
	spoil(value.Tell(made).Items)
	if !sameParts(value.Tell(made), want) || !sameParts(value.Tell(v), tuplePart(tuplePart(namePart("a")), tuplePart(textPart("b"), null()))) {
		t.Errorf("%s, %s", brief(value.Tell(made)), brief(value.Tell(v)))
	}
}

// spoil makes each part of a list, and within, one that may not be.
func spoil(l []api.Part) {
	for i := range l {
		spoil(l[i].Items)
		l[i] = api.Part{Kind: 9}
	}
}

// TestMapNewFaults is R2: a Fault is another one each time.
func TestMapNewFaults(t *testing.T) {
	for _, c := range []struct {
		l []api.Source
		v api.Part
	}{{nil, null()}, {all(1025), example()}, {from(3), example()}, {[]api.Source{own(api.Part{Kind: 9})}, example()}, {[]api.Source{own(nested(16, null()))}, example()}} {
		v := must(t, c.v)
		newEachTime(t, func() error { _, err := rekey.Map(c.l, v); return err })
	}
}

// newEachTime: a call tells another Fault each time, whatever was done to the one before.
func newEachTime(t *testing.T, call func() error) {
	t.Helper()
	one, other := isFault(t, call()), isFault(t, call())
	if one == other || !sameError(one, other) {
		t.Errorf("%s, %s", told(one), told(other))
	}
	before := told(other)
	for i := range one.Path {
		one.Path[i] += 70
	}
	if inner, is := one.Why.(*api.Fault); is {
		for i := range inner.Path {
			inner.Path[i] += 80
		}
		inner.Code, inner.At = 7, 8
	}
	one.Code, one.At, one.Why = 77, 78, nil
	if told(other) != before || told(call()) != before {
		t.Errorf("%s; then %s, %s", before, told(other), told(call()))
	}
}
