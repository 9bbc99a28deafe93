package fit

import (
	"errors"
	"math/big"
	"math/rand"
	"slices"
	"strings"
	"testing"

	"dovetail/api"
	"dovetail/schema"
	"dovetail/value"
)

// checkField holds Field of a field and a value against the chapter's words.
func checkField(t *testing.T, f api.Field, p api.Part) {
	t.Helper()
	want := plainField(f, p)
	if err := Field(f, must(t, p)); !isFault(err, want) {
		t.Fatalf("%s, %s: %s, not %s", brief(f), brief(p), told(err), told(want))
	}
}

// wantField: Field of these is that Fault, and so the words have it.
func wantField(t *testing.T, f api.Field, p api.Part, want *api.Fault) {
	t.Helper()
	if err := Field(f, must(t, p)); !isFault(err, want) {
		t.Errorf("%s, %s: %s, not %s", brief(f), brief(p), told(err), told(want))
	}
	if bad := plainField(f, p); (bad == nil) != (want == nil) || bad != nil && !isFault(bad, want) {
		t.Errorf("%s, %s: the words say %s", brief(f), brief(p), told(bad))
	}
}

func fault(code api.Errno, path ...int) *api.Fault { return &api.Fault{Code: code, Path: path} }

func kindFault(path ...int) *api.Fault {
	return &api.Fault{Code: api.ErrFitKind, Path: path, Why: &api.Fault{Code: api.ErrKind}}
}

func utfFault(at int, path ...int) *api.Fault {
	return &api.Fault{Code: api.ErrFitUtf, At: at, Path: path, Why: api.ErrUtfForm}
}

func argFault(code api.Errno, path ...int) *api.Fault {
	return &api.Fault{Code: api.ErrArg, Why: fault(code, path...)}
}

// ofEach is a value of each kind, at its number.
func ofEach() []api.Part {
	return []api.Part{
		api.Null:  {},
		api.Bool:  boolPart(true),
		api.Int:   intPart(7),
		api.Bytes: rawPart(api.Bytes, "abc"),
		api.ID:    rawPart(api.ID, "0123456789abcdef"),
		api.Name:  rawPart(api.Name, "abc"),
		api.Text:  rawPart(api.Text, "abc"),
		api.Tuple: tuplePart(boolPart(false)),
	}
}

// TestFieldExamples is the chapter's table on Field.
func TestFieldExamples(t *testing.T) {
	f := func(k api.Kind) api.Field { return api.Field{Name: "a", Kind: k} }
	wantField(t, f(api.Int), api.Part{}, fault(api.ErrFitNull))
	wantField(t, withNulls(f(api.Int), api.NullLast), api.Part{}, nil)
	wantField(t, f(api.Bytes), rawPart(api.Bytes, "a"), fault(api.ErrFitLong))
	wantField(t, most(api.Bytes, 1), rawPart(api.Bytes, "a"), nil)
	wantField(t, bounded(num(-1), num(1)), intPart(2), fault(api.ErrFitRange))
	wantField(t, bounded(num(1), num(-1)), intPart(2), argFault(api.ErrSchemaRange, 0))
	wantField(t, f(api.Text), rawPart(api.Text, "a"), argFault(api.ErrSchemaRange, 0))
	wantField(t, is(api.Text), rawPart(api.Text, "a\xff"), utfFault(1))
	wantField(t, most(api.Name, 9), rawPart(api.Text, "a"), kindFault())

	asks := []struct {
		f   api.Field
		p   api.Part
		why api.Errno
	}{
		{bounded(num(1), num(-1)), intPart(2), api.ErrSchemaRange},
		{is(api.Text), rawPart(api.Text, "a\xff"), api.ErrUtfForm},
		{most(api.Name, 9), rawPart(api.Text, "a"), api.ErrKind},
	}
	for _, a := range asks {
		if err := Field(a.f, must(t, a.p)); !errors.Is(err, a.why) {
			t.Errorf("%s, %s: %s comes of no %d", brief(a.f), brief(a.p), told(err), a.why)
		}
	}
}

// TestFieldNull is P12.1: null, by what each kind of field says of it.
func TestFieldNull(t *testing.T) {
	for k := api.Bool; k <= api.Tuple; k++ {
		for _, down := range []bool{false, true} {
			f := is(k)
			f.Down = down
			wantField(t, withNulls(f, api.NeverNull), api.Part{}, fault(api.ErrFitNull))
			wantField(t, withNulls(f, api.NullFirst), api.Part{}, nil)
			wantField(t, withNulls(f, api.NullLast), api.Part{}, nil)
			wantField(t, withNulls(f, 3), api.Part{}, argFault(api.ErrSchemaRange, 0))
		}
	}
	null, _ := value.Make(api.Part{})
	list, _ := value.Of(nil)
	for _, v := range []value.Value{nil, null, list.At(0), list.At(1)} {
		if err := Field(withNulls(is(api.Int), api.NullLast), v); err != nil {
			t.Error(told(err))
		}
		if err := Field(is(api.Int), v); !isFault(err, fault(api.ErrFitNull)) {
			t.Error(told(err))
		}
	}
}

// TestFieldKinds is P12.1: each kind of field against each kind of value, and what value.Want says of it.
func TestFieldKinds(t *testing.T) {
	for k := api.Bool; k <= api.Tuple; k++ {
		for _, nulls := range []api.Nulls{api.NeverNull, api.NullFirst, api.NullLast} {
			for of, p := range ofEach() {
				f := withNulls(is(k), nulls)
				switch {
				case api.Kind(of) == api.Null:
					checkField(t, f, p)
				case api.Kind(of) == k:
					wantField(t, f, p, nil)
				default:
					wantField(t, f, p, kindFault())
					_, want := value.Want(must(t, p), k)
					if err := Field(f, must(t, p)); !sameWhy(errors.Unwrap(err), want) || !errors.Is(err, api.ErrKind) {
						t.Errorf("%s, %s: it comes of %s", brief(f), brief(p), told(errors.Unwrap(err)))
					}
				}
			}
		}
	}
	// another kind, also of what would be too long, or no UTF-8, or of another count
	wantField(t, most(api.Bytes, 0), rawPart(api.Name, "a\xff"), kindFault())
	wantField(t, most(api.Name, 0), rawPart(api.Bytes, "a\xff"), kindFault())
	wantField(t, is(api.Text), rawPart(api.Bytes, "a\xff"), kindFault())
	wantField(t, is(api.Text), rawPart(api.Name, "\xff"), kindFault())
	wantField(t, is(api.ID), rawPart(api.Bytes, "0123456789abcdef"), kindFault())
	wantField(t, most(api.Bytes, 16), rawPart(api.ID, "0123456789abcdef"), kindFault())
	wantField(t, is(api.Bool), tuplePart(), kindFault())
	wantField(t, bounded(num(0), num(0)), boolPart(false), kindFault())
}

// TestFieldBounds is P12.1: numbers just below and above the bounds, at them, between them, and without any.
func TestFieldBounds(t *testing.T) {
	edge := new(big.Int).Lsh(big.NewInt(1), 255*8)
	edge.Sub(edge, big.NewInt(1)) // the greatest number of all
	numbers := []*big.Int{new(big.Int).Neg(edge), big.NewInt(-65536), big.NewInt(-256), big.NewInt(-255), big.NewInt(-1), big.NewInt(0), big.NewInt(1), big.NewInt(255), big.NewInt(256), big.NewInt(1 << 62), edge}
	one := big.NewInt(1)
	try := func(f api.Field, x *big.Int) {
		if len(x.Bytes()) > 255 {
			return
		}
		var want *api.Fault
		if f.Bounded && (x.Cmp(plainBig(f.Low)) < 0 || x.Cmp(plainBig(f.High)) > 0) {
			want = fault(api.ErrFitRange)
		}
		wantField(t, f, numPart(numOf(x)), want)
	}
	for _, low := range numbers {
		try(is(api.Int), low)
		for _, high := range numbers {
			if low.Cmp(high) > 0 {
				continue
			}
			f := bounded(numOf(low), numOf(high))
			for _, x := range append([]*big.Int{low, high}, numbers...) {
				try(f, x)
				try(f, new(big.Int).Sub(x, one))
				try(f, new(big.Int).Add(x, one))
			}
		}
	}
	for x := int64(-12); x <= 12; x++ {
		for low := int64(-5); low <= 5; low++ {
			for high := low; high <= 5; high++ {
				f := bounded(num(low), num(high))
				f.Down = x%2 == 0
				try(f, big.NewInt(x))
			}
		}
	}
	// bounds that say 0 to 0 are some
	wantField(t, bounded(num(0), num(0)), intPart(0), nil)
	wantField(t, bounded(num(0), num(0)), intPart(1), fault(api.ErrFitRange))
	wantField(t, bounded(num(0), num(0)), intPart(-1), fault(api.ErrFitRange))
}

// TestFieldMost is P12.1: as many bytes as there may be, and one more; what counts is bytes.
func TestFieldMost(t *testing.T) {
	for _, k := range []api.Kind{api.Bytes, api.Name} {
		for _, n := range []int{0, 1, 2, 8, 255, 65535} {
			wantField(t, most(k, n), rawPart(k, strings.Repeat("a", n)), nil)
			wantField(t, most(k, n), rawPart(k, strings.Repeat("a", n+1)), fault(api.ErrFitLong))
			wantField(t, most(k, n), rawPart(k, strings.Repeat("\x00", n/2)), nil)
			wantField(t, most(k, n), rawPart(k, strings.Repeat("\x00", n+1)), fault(api.ErrFitLong))
			wantField(t, most(k, n), rawPart(k, ""), nil)
			wantField(t, most(k, n), rawPart(k, strings.Repeat("a", 65536)), fault(api.ErrFitLong))
		}
		wantField(t, most(k, 65536), rawPart(k, strings.Repeat("a", 65536)), nil)
		wantField(t, most(k, 65537), rawPart(k, ""), argFault(api.ErrSchemaRange, 0))
		wantField(t, most(k, -1), rawPart(k, ""), argFault(api.ErrSchemaRange, 0))
		wantField(t, most(k, 3), rawPart(k, "\u20ac"), nil)
		wantField(t, most(k, 2), rawPart(k, "\u20ac"), fault(api.ErrFitLong))
	}
	wantField(t, is(api.Text), rawPart(api.Text, strings.Repeat("a", 65536)), nil)
	wantField(t, is(api.ID), rawPart(api.ID, strings.Repeat("\xff", 16)), nil)
}

// TestFieldUtf is P12.1: Name and Text that are no UTF-8, with the place and the number; Bytes and ID are any bytes.
func TestFieldUtf(t *testing.T) {
	wrongs := []string{"\xff", "\x80", "\xc0\x80", "\xc1\xbf", "\xc3", "\xe0\x9f\xbf", "\xe2\x82", "\xed\xa0\x80", "\xed\xbf\xbf", "\xf0\x8f\xbf\xbf", "\xf0\x9f\x98", "\xf4\x90\x80\x80", "\xf5\x80\x80\x80", "\xe2\x82a", "\xef\xbf"}
	rights := []string{"", "a", "\x00", "\x7f", "\xc2\x80", "\xdf\xbf", "\xe0\xa0\x80", "\xed\x9f\xbf", "\xee\x80\x80", "\xef\xbf\xbd", "\xef\xbf\xbf", "\xf0\x90\x80\x80", "\xf4\x8f\xbf\xbf"}
	for _, k := range []api.Kind{api.Name, api.Text} {
		f := is(k)
		if k == api.Name {
			f.Most = 65536
		}
		for _, ahead := range append(rights, strings.Repeat("\u20ac", 9), strings.Repeat("a", 65500)) {
			wantField(t, f, rawPart(k, ahead), nil)
			for _, bad := range wrongs {
				wantField(t, f, rawPart(k, ahead+bad), utfFault(len(ahead)))
				wantField(t, f, rawPart(k, ahead+bad+"z"), utfFault(len(ahead)))
				wantField(t, f, rawPart(k, ahead+bad+"\xff"), utfFault(len(ahead)))
			}
		}
	}
	for _, bad := range wrongs {
		wantField(t, is(api.Bytes), rawPart(api.Bytes, bad), nil)
		wantField(t, is(api.ID), rawPart(api.ID, (bad + strings.Repeat("\xff", 16))[:16]), nil)
		// too long goes ahead of no UTF-8
		wantField(t, most(api.Name, len(bad)), rawPart(api.Name, bad), utfFault(0))
		wantField(t, most(api.Name, len(bad)-1), rawPart(api.Name, bad), fault(api.ErrFitLong))
		wantField(t, most(api.Name, 0), rawPart(api.Name, "a"+bad), fault(api.ErrFitLong))
	}
	for c := range 256 {
		checkField(t, is(api.Name), rawPart(api.Name, "a"+string([]byte{byte(c)})))
		for d := range 256 {
			checkField(t, is(api.Text), rawPart(api.Text, string([]byte{byte(c), byte(d)})))
		}
	}
	err := Field(is(api.Text), must(t, rawPart(api.Text, "ab\xff")))
	if why := errors.Unwrap(err); why != error(api.ErrUtfForm) {
		t.Errorf("it comes of %s", told(why))
	}
}

// TestFieldCount is P12.1: tuples of fewer and of more items than there are fields, and of none.
func TestFieldCount(t *testing.T) {
	for fields := 1; fields <= 63; fields++ {
		f := tupleField("a", many(fields)...)
		for _, items := range []int{0, 1, fields - 1, fields, fields + 1, 2 * fields, 63, 64, 1024} {
			p := api.Part{Kind: api.Tuple, Items: slices.Repeat([]api.Part{boolPart(true)}, items)}
			if items == fields {
				wantField(t, f, p, nil)
				continue
			}
			wantField(t, f, p, fault(api.ErrFitCount))
			p.Items = make([]api.Part, items) // what stands in them counts for nothing
			wantField(t, f, p, fault(api.ErrFitCount))
		}
	}
}

// TestFieldFirst is P12.1: which error is told, where there are several.
func TestFieldFirst(t *testing.T) {
	f := tupleField("a", named("x", is(api.Int)), named("y", tupleField("y", is(api.Name), named("b", is(api.Text)))), named("z", is(api.Bool)))
	good := tuplePart(rawPart(api.Name, ""), rawPart(api.Text, ""))
	wantField(t, f, tuplePart(intPart(1), good, boolPart(true)), nil)
	wantField(t, f, tuplePart(api.Part{}, api.Part{}, api.Part{}), fault(api.ErrFitNull, 0))
	wantField(t, f, tuplePart(boolPart(true), api.Part{}, api.Part{}), kindFault(0))
	wantField(t, f, tuplePart(intPart(1), tuplePart(), intPart(1)), fault(api.ErrFitCount, 1))
	wantField(t, f, tuplePart(intPart(1), tuplePart(api.Part{}), api.Part{}), fault(api.ErrFitCount, 1))
	wantField(t, f, tuplePart(intPart(1), tuplePart(api.Part{}, rawPart(api.Text, "\xff")), api.Part{}), fault(api.ErrFitNull, 1, 0))
	wantField(t, f, tuplePart(intPart(1), tuplePart(rawPart(api.Name, "abc\xff"), rawPart(api.Text, "\xff")), api.Part{}), utfFault(3, 1, 0))
	wantField(t, f, tuplePart(intPart(1), tuplePart(rawPart(api.Name, "abcdefghi\xff"), rawPart(api.Text, "\xff")), api.Part{}), fault(api.ErrFitLong, 1, 0))
	wantField(t, f, tuplePart(intPart(1), tuplePart(rawPart(api.Name, "abc"), rawPart(api.Text, "a\xff")), api.Part{}), utfFault(1, 1, 1))
	wantField(t, f, tuplePart(intPart(1), good, api.Part{}), fault(api.ErrFitNull, 2))
	wantField(t, f, tuplePart(api.Part{}, api.Part{}), fault(api.ErrFitCount))
	wantField(t, f, tuplePart(intPart(1), good, boolPart(true), api.Part{}), fault(api.ErrFitCount))
}

// TestFieldArg is R5: a field that may not be, ahead of all that is wrong with the value, with what schema.Check says of it.
func TestFieldArg(t *testing.T) {
	deep, _ := wrapped(16, is(api.Bool), api.Part{})
	just, _ := wrapped(15, is(api.Bool), api.Part{})
	wrongs := []struct {
		f    api.Field
		want *api.Fault
	}{
		{api.Field{}, argFault(api.ErrSchemaName, 0)},
		{named("A", is(api.Bool)), argFault(api.ErrSchemaName, 0)},
		{named(strings.Repeat("a", 17), is(api.Bool)), argFault(api.ErrSchemaName, 0)},
		{api.Field{Name: "a"}, argFault(api.ErrSchemaRange, 0)},
		{api.Field{Name: "a", Kind: 8}, argFault(api.ErrSchemaRange, 0)},
		{api.Field{Name: "a", Kind: api.Bool, Most: 1}, argFault(api.ErrSchemaRange, 0)},
		{api.Field{Name: "a", Kind: api.Int, Low: num(1)}, argFault(api.ErrSchemaRange, 0)},
		{bounded(api.Num{Below: true}, num(0)), argFault(api.ErrSchemaRange, 0)},
		{bounded(num(0), api.Num{Mag: strings.Repeat("\x01", 256)}), argFault(api.ErrSchemaRange, 0)},
		{api.Field{Name: "a", Kind: api.Text, Collate: api.Collate{Strength: 4}}, argFault(api.ErrSchemaRange, 0)},
		{tupleField("a"), argFault(api.ErrSchemaEmpty, 0)},
		{tupleField("a", is(api.Bool), is(api.Int)), argFault(api.ErrSchemaTwice, 0, 1)},
		{tupleField("a", is(api.Bool), tupleField("b", is(api.Int), named("c", most(api.Name, -1)))), argFault(api.ErrSchemaRange, 0, 1, 1)},
		{tupleField("a", many(64)...), argFault(api.ErrSchemaMany, 0, 63)},
		{deep, argFault(api.ErrSchemaDeep, slices.Repeat([]int{0}, 17)...)},
		{tupleField("a", just, named("b", just), named("c", just), named("d", just), named("e", just)), argFault(api.ErrSchemaDeep, slices.Repeat([]int{0}, 17)...)},
	}
	for _, w := range wrongs {
		for _, p := range ofEach() {
			wantField(t, w.f, p, w.want)
		}
		if w.f.Nulls = api.NullLast; w.f.Name != "" {
			wantField(t, w.f, api.Part{}, w.want)
		}
		err := Field(w.f, nil)
		want := schema.Check(api.Schema{Limit: 65536, Fields: []api.Field{w.f}})
		if !sameWhy(errors.Unwrap(err), want) || !errors.Is(err, api.ErrArg) || !errors.Is(err, want.(*api.Fault).Code) {
			t.Errorf("%s: %s", brief(w.f), told(err))
		}
	}
	wantField(t, just, api.Part{}, fault(api.ErrFitNull))
}

// TestFieldDeep is P12.1: tuples within one another, with the path of what is wrong at each depth.
func TestFieldDeep(t *testing.T) {
	for n := range 16 {
		path := slices.Repeat([]int{0}, n)
		f, p := wrapped(n, is(api.Int), intPart(1))
		wantField(t, f, p, nil)
		f, p = wrapped(n, is(api.Int), api.Part{})
		wantField(t, f, p, fault(api.ErrFitNull, path...))
		f, p = wrapped(n, is(api.Int), boolPart(true))
		wantField(t, f, p, kindFault(path...))
		f, p = wrapped(n, bounded(num(0), num(0)), intPart(1))
		wantField(t, f, p, fault(api.ErrFitRange, path...))
		f, p = wrapped(n, most(api.Bytes, 0), rawPart(api.Bytes, "a"))
		wantField(t, f, p, fault(api.ErrFitLong, path...))
		f, p = wrapped(n, is(api.Text), rawPart(api.Text, "abc\xe2\x82"))
		wantField(t, f, p, utfFault(3, path...))
		if n < 15 {
			f, p = wrapped(n, is(api.Tuple), tuplePart())
			wantField(t, f, p, fault(api.ErrFitCount, path...))
		}
	}
	// the places that lead there are those of the items, the outermost first
	f := is(api.Bool)
	p := api.Part{}
	var path []int
	for i := range 9 {
		fields, items := many(i), slices.Repeat([]api.Part{boolPart(true)}, i)
		f, p = tupleField("a", append(fields, named("z", f))...), tuplePart(append(items, p)...)
		path = append([]int{i}, path...)
	}
	wantField(t, f, p, fault(api.ErrFitNull, path...))
}

// TestFieldMixed is P12.1: fields of every shape, with values of theirs, and those with a few things changed.
func TestFieldMixed(t *testing.T) {
	r := rand.New(rand.NewSource(121))
	seen := map[api.Errno]int{}
	for range 4000 {
		f := rightField(r, "a", 1+r.Intn(4))
		p := rightPart(r, f)
		for range 6 {
			checkField(t, f, p)
			seen[codeOf(Field(f, must(t, p)))]++
			p = changed(r, p)
		}
		checkField(t, f, anyPart(r))
	}
	for _, code := range []api.Errno{api.OK, api.ErrFitKind, api.ErrFitNull, api.ErrFitCount, api.ErrFitRange, api.ErrFitLong, api.ErrFitUtf} {
		if seen[code] < 50 {
			t.Errorf("error %d: %d times", code, seen[code])
		}
	}
}

// codeOf is the number of an error, OK of none.
func codeOf(err error) api.Errno {
	var f *api.Fault
	if errors.As(err, &f) {
		return f.Code
	}
	return api.OK
}
