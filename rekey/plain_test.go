package rekey_test

import (
	"errors"
	"fmt"
	"math/big"
	"math/rand"
	"reflect"
	"slices"
	"strconv"
	"strings"
	"testing"

	"dovetail/api"
	"dovetail/pack"
	"dovetail/rekey"
	"dovetail/schema"
	"dovetail/value"
	"dovetail/weigh"
)

// What the tests hold the package against: the words of chapter 18, by parts; and package pack's keys.

// plainDepth is chapter 9's words on how deep a part is.
func plainDepth(p api.Part) int {
	if p.Kind != api.Tuple {
		return 0
	}
	deepest := 0
	for _, item := range p.Items {
		deepest = max(deepest, plainDepth(item))
	}
	return deepest + 1
}

// plainMayBe is chapter 9's words on which parts may be, kind by kind.
func plainMayBe(p api.Part) bool {
	yes, num, raw, items := p.Yes, p.Num != api.Num{}, p.Raw != "", len(p.Items) > 0
	switch p.Kind {
	case 0:
		return !yes && !num && !raw && !items
	case 1:
		return !num && !raw && !items
	case 2:
		zero := len(p.Num.Mag) == 0 && !p.Num.Below
		return !yes && !raw && !items && (zero || len(p.Num.Mag) > 0 && len(p.Num.Mag) <= 255 && p.Num.Mag[0] != 0)
	case 3, 5, 6:
		return !yes && !num && !items && len(p.Raw) <= 65536
	case 4:
		return !yes && !num && !items && len(p.Raw) == 16
	case 7:
		return !yes && !num && !raw && len(p.Items) <= 1024 && !slices.ContainsFunc(p.Items, func(q api.Part) bool { return !plainMayBe(q) })
	}
	return false
}

// plainOwn is what is wrong with a part as an item: what value.Make refuses, and what is 16 deep.
func plainOwn(p api.Part) api.Errno {
	switch deep := plainDepth(p); {
	case deep > 16:
		return api.ErrValueDeep
	case !plainMayBe(p):
		return api.ErrValueForm
	case deep == 16:
		return api.ErrValueDeep
	}
	return api.OK
}

// plainMap is P18.1, by parts.
func plainMap(l []api.Source, p api.Part) (api.Part, *api.Fault) {
	if p.Kind != api.Tuple {
		return api.Part{}, &api.Fault{Code: api.ErrKind}
	}
	if len(l) > 1024 {
		return api.Part{}, wrong(1024)
	}
	out := api.Part{Kind: api.Tuple}
	for i, s := range l {
		switch {
		case s.Field >= 0 && s.Field+1 > len(p.Items) || s.Field > 1024:
			return api.Part{}, wrong(i)
		case s.Field >= 0:
			out.Items = append(out.Items, p.Items[s.Field])
		case plainOwn(s.Part) != api.OK:
			return api.Part{}, wrongPart(i, plainOwn(s.Part))
		default:
			out.Items = append(out.Items, s.Part)
		}
	}
	return out, nil
}

// plainKey is P18.2.
func plainKey(t testing.TB, x *weigh.Tables, s, to api.Schema, l []api.Source, key string) (string, error) {
	t.Helper()
	v, err := pack.Decode(x, s, key)
	if err != nil {
		return "", err
	}
	p, bad := plainMap(l, value.Tell(v))
	if bad != nil {
		return "", bad
	}
	return pack.Encode(x, to, must(t, p))
}

// wrong is the Fault of the source at a place; wrongPart that of one whose part is refused.
func wrong(place int) *api.Fault { return &api.Fault{Code: api.ErrRekeyMap, At: place} }

func wrongPart(place int, why api.Errno) *api.Fault {
	return &api.Fault{Code: api.ErrRekeyMap, At: place, Why: why}
}

// from are sources that take these items.
func from(places ...int) []api.Source {
	var l []api.Source
	for _, n := range places {
		l = append(l, api.Source{Field: n})
	}
	return l
}

// own is a source with a value of its own.
func own(p api.Part) api.Source { return api.Source{Field: -1, Part: p} }

// all are the sources 0, 1, 2 and so on.
func all(n int) []api.Source {
	l := make([]api.Source, n)
	for i := range l {
		l[i].Field = i
	}
	return l
}

// wantMap: the tuple made over is that one, by the words too.
func wantMap(t testing.TB, l []api.Source, p, want api.Part) {
	t.Helper()
	v, err := rekey.Map(l, must(t, p))
	if err != nil || v == nil || !sameParts(value.Tell(v), want) {
		t.Fatalf("%s of %s: %s, %s; not %s", brief(l), brief(p), brief(value.Tell(v)), told(err), brief(want))
	}
	if plain, bad := plainMap(l, p); bad != nil || !sameParts(plain, want) {
		t.Fatalf("%s of %s: the words say %s, %s; not %s", brief(l), brief(p), brief(plain), told(bad), brief(want))
	}
	wantTuple(t, v)
}

// wantTuple: it is a value of layer 9's, whose items are what it tells, null the nil interface.
func wantTuple(t testing.TB, v value.Value) {
	t.Helper()
	list, is := value.AsList(v)
	if !is || value.Depth(v) > 16 || !value.Same(v, must(t, value.Tell(v))) {
		t.Fatalf("%s: no tuple", brief(value.Tell(v)))
	}
	for i, p := range value.Tell(v).Items {
		if item := list.At(i); (item == nil) != (p.Kind == api.Null) || !sameParts(value.Tell(item), p) {
			t.Fatalf("%s: %d is %T", brief(value.Tell(v)), i, item)
		}
	}
}

// wantUnmapped: Map answers just this error, and nothing beside it; and so it is by the words.
func wantUnmapped(t testing.TB, l []api.Source, p api.Part, want *api.Fault) {
	t.Helper()
	v, err := rekey.Map(l, must(t, p))
	if v != nil || !sameError(err, want) {
		t.Fatalf("%s of %s: %s, %s; not %s", brief(l), brief(p), brief(value.Tell(v)), told(err), told(want))
	}
	if _, bad := plainMap(l, p); !sameError(bad, want) {
		t.Fatalf("%s of %s: the words say %s, not %s", brief(l), brief(p), told(bad), told(want))
	}
	isFault(t, err)
}

// check holds Map against the words, whatever they say; and tells whether there is a tuple.
func check(t testing.TB, l []api.Source, p api.Part) bool {
	t.Helper()
	want, bad := plainMap(l, p)
	if bad != nil {
		wantUnmapped(t, l, p, bad)
		return false
	}
	wantMap(t, l, p, want)
	return true
}

// wantKey: Key answers just these bytes; and so it is by the words.
func wantKey(t testing.TB, x *weigh.Tables, s, to api.Schema, l []api.Source, key, want string) {
	t.Helper()
	got, err := rekey.Key(x, s, to, l, key)
	if err != nil || got != want {
		t.Fatalf("%s; %s; %s of %s: %s, %s; not %s", brief(s), brief(to), brief(l), hex(key), hex(got), told(err), hex(want))
	}
	if plain, err := plainKey(t, x, s, to, l, key); err != nil || plain != want {
		t.Fatalf("%s; %s; %s of %s: the words say %s, %s; not %s", brief(s), brief(to), brief(l), hex(key), hex(plain), told(err), hex(want))
	}
}

// wantNoKey: Key answers just this error, and nothing beside it; and so it is by the words.
func wantNoKey(t testing.TB, x *weigh.Tables, s, to api.Schema, l []api.Source, key string, want error) {
	t.Helper()
	got, err := rekey.Key(x, s, to, l, key)
	if got != "" || !sameError(err, want) {
		t.Fatalf("%s; %s; %s of %s: %s, %s; not %s", brief(s), brief(to), brief(l), hex(key), hex(got), told(err), told(want))
	}
	if _, bad := plainKey(t, x, s, to, l, key); !sameError(bad, want) {
		t.Fatalf("%s; %s; %s of %s: the words say %s, not %s", brief(s), brief(to), brief(l), hex(key), told(bad), told(want))
	}
	isFault(t, err)
}

// checkKey holds Key against the words, whatever they say; and tells the key, or what is wrong.
func checkKey(t testing.TB, x *weigh.Tables, s, to api.Schema, l []api.Source, key string) (string, error) {
	t.Helper()
	want, bad := plainKey(t, x, s, to, l, key)
	if bad != nil {
		wantNoKey(t, x, s, to, l, key, bad)
		return "", bad
	}
	wantKey(t, x, s, to, l, key, want)
	return want, nil
}

// keyOf is a tuple's key.
func keyOf(t testing.TB, x *weigh.Tables, s api.Schema, p api.Part) string {
	t.Helper()
	key, err := pack.Encode(x, s, must(t, p))
	if err != nil {
		t.Fatalf("%s; %s: %s", brief(s), brief(p), told(err))
	}
	return key
}

// sameParts tells whether two parts are the same; a list without elements may be nil or not.
func sameParts(a, b api.Part) bool {
	if a.Kind != b.Kind || a.Yes != b.Yes || a.Num != b.Num || a.Raw != b.Raw || len(a.Items) != len(b.Items) {
		return false
	}
	for i := range a.Items {
		if !sameParts(a.Items[i], b.Items[i]) {
			return false
		}
	}
	return true
}

// nested is a part within so many tuples.
func nested(n int, p api.Part) api.Part {
	for range n {
		p = tuplePart(p)
	}
	return p
}

// farthest is the greatest number that there is.
func farthest() *big.Int {
	n := new(big.Int).Lsh(big.NewInt(1), 8*255)
	return n.Sub(n, big.NewInt(1))
}

func bigOf(n api.Num) *big.Int {
	b := new(big.Int).SetBytes([]byte(n.Mag))
	if n.Below {
		b.Neg(b)
	}
	return b
}

func numOf(b *big.Int) api.Num { return api.Num{Below: b.Sign() < 0, Mag: string(b.Bytes())} }

// plainRange is from where to where a field's numbers go.
func plainRange(f api.Field) (*big.Int, *big.Int) {
	if f.Bounded {
		return bigOf(f.Low), bigOf(f.High)
	}
	return new(big.Int).Neg(farthest()), farthest()
}

// Tables with an element of each sort: texts are told apart by one level only, or by none though their bytes differ.
const (
	oddMarks   = "0301;230;\n0302;230;\n0323;220;\n00E1;0;0061 0301"
	oddEntries = "0061;[.1000.0020.0002]\n" +
		"0041;[.1000.0020.0008]\n" + // by the third level
		"0062;[.1001.0020.0002]\n" +
		"0063;[.00FF.0020.0002]\n" + // weights with bytes 00 in them, that end no level
		"0064;[.FA00.0100.001F]\n" +
		"0301;[.0000.0024.0002]\n" + // by the second level
		"0302;[.0000.0025.0002]\n" +
		"0323;[.0000.0000.0000]\n" + // by none
		"0020;[*0209.0020.0002]\n" + // by the fourth level, if it is shifted
		"002D;[*020A.0020.0002]\n" +
		"007E;[*020B.0020.0002]" // whose byte stands behind those of letters
)

func load(t testing.TB, marks, entries string) *weigh.Tables {
	t.Helper()
	x, e, which, line := weigh.Load(marks, entries)
	if e != api.OK {
		t.Fatalf("Load: %d, %d, %d", e, which, line)
	}
	return x
}

func odd(t testing.TB) *weigh.Tables { return load(t, oddMarks, oddEntries) }

func empty(t testing.TB) *weigh.Tables { return load(t, "", "") }

// collations are all that are right.
func collations() []api.Collate {
	var l []api.Collate
	for n := 1; n <= 4; n++ {
		for _, shifted := range []bool{false, true} {
			for _, back := range []bool{false, true} {
				if n < 4 || shifted {
					l = append(l, api.Collate{Strength: n, Shifted: shifted, Back: back})
				}
			}
		}
	}
	return l
}

// isFault is an error that errors.As and errors.Is find as DOC.md has it.
func isFault(t testing.TB, err error) *api.Fault {
	t.Helper()
	bad, is := err.(*api.Fault)
	var as *api.Fault
	if !is || bad == nil || !errors.As(err, &as) || as != bad || !errors.Is(err, bad.Code) || bad.Why != nil && !errors.Is(err, bad.Why) {
		t.Fatalf("%s: no Fault", told(err))
	}
	return bad
}

// sameError tells whether two errors are of one type and have the same; a path without places may be nil or not.
func sameError(a, b error) bool {
	f, isF := a.(*api.Fault)
	g, isG := b.(*api.Fault)
	if isF && isG && f != nil && g != nil {
		return f.Code == g.Code && f.At == g.At && slices.Equal(f.Path, g.Path) && sameError(f.Why, g.Why)
	}
	return reflect.DeepEqual(a, b)
}

// told is an error in few words.
func told(err error) string {
	if f, is := err.(*api.Fault); is && f != nil {
		return fmt.Sprintf("error %d at %d path %v why (%s)", f.Code, f.At, f.Path, told(f.Why))
	}
	return fmt.Sprintf("%T %v", err, err)
}

// brief is what a test tells of something: as much as fits a few lines.
func brief(x any) string {
	s := fmt.Sprintf("%+v", x)
	return strconv.Quote(s[:min(len(s), 400)])
}

func hex(s string) string { return fmt.Sprintf("%d bytes % x", len(s), s[:min(len(s), 100)]) }

func num(n int64) api.Num { return api.Num{Below: n < 0, Mag: string(big.NewInt(n).Bytes())} }

func numPart(n api.Num) api.Part { return api.Part{Kind: api.Int, Num: n} }

func intPart(n int64) api.Part { return numPart(num(n)) }

func rawPart(k api.Kind, s string) api.Part { return api.Part{Kind: k, Raw: s} }

func bytesPart(s string) api.Part { return rawPart(api.Bytes, s) }

func namePart(s string) api.Part { return rawPart(api.Name, s) }

func textPart(s string) api.Part { return rawPart(api.Text, s) }

func boolPart(yes bool) api.Part { return api.Part{Kind: api.Bool, Yes: yes} }

func tuplePart(items ...api.Part) api.Part { return api.Part{Kind: api.Tuple, Items: items} }

func null() api.Part { return api.Part{} }

// must is the value of a part that may be.
func must(t testing.TB, p api.Part) value.Value {
	t.Helper()
	v, e := value.Make(p)
	if e != api.OK {
		t.Fatalf("%s: error %d", brief(p), e)
	}
	return v
}

// is is a field called a of that kind, with as much as its kind must say.
func is(k api.Kind) api.Field {
	f := api.Field{Name: "a", Kind: k}
	switch k {
	case api.Bytes, api.Name:
		f.Most = 65536
	case api.Text:
		f.Collate.Strength = 3
	case api.Tuple:
		f.Fields = []api.Field{is(api.Int)}
	}
	return f
}

func named(name string, f api.Field) api.Field {
	f.Name = name
	return f
}

func down(f api.Field) api.Field {
	f.Down = true
	return f
}

func nulls(n api.Nulls, f api.Field) api.Field {
	f.Nulls = n
	return f
}

func most(n int, f api.Field) api.Field {
	f.Most = n
	return f
}

func bounded(low, high api.Num) api.Field {
	return api.Field{Name: "a", Kind: api.Int, Bounded: true, Low: low, High: high}
}

func collated(c api.Collate) api.Field { return api.Field{Name: "a", Kind: api.Text, Collate: c} }

// tupleOf is a field of tuples of these fields, which are called a, b and so on.
func tupleOf(fields ...api.Field) api.Field {
	l := slices.Clone(fields)
	for i := range l {
		l[i].Name = string(rune('a' + i))
	}
	return api.Field{Name: "a", Kind: api.Tuple, Fields: l}
}

// schemaOf is a schema of these fields, which are called a, b and so on.
func schemaOf(limit int, fields ...api.Field) api.Schema {
	return api.Schema{Limit: limit, Fields: tupleOf(fields...).Fields}
}

// count is how many fields there are, with those within.
func count(fields []api.Field) int {
	n := len(fields)
	for _, f := range fields {
		n += count(f.Fields)
	}
	return n
}

// edges are numbers about which bounds are laid.
func edges() []api.Num {
	var l []api.Num
	for _, n := range []int64{-65537, -65536, -300, -257, -256, -255, -2, -1, 0, 1, 2, 255, 256, 257, 300, 65535, 65536} {
		l = append(l, num(n))
	}
	for _, m := range magnitudes() {
		if len(m) > 100 {
			l = append(l, api.Num{Mag: m}, api.Num{Below: true, Mag: m})
		}
	}
	return l
}

// someBounds are bounds, or none.
func someBounds(r *rand.Rand) api.Field {
	all := edges()
	low, high := all[r.Intn(len(all))], all[r.Intn(len(all))]
	if r.Intn(4) > 0 {
		low, high = all[r.Intn(17)], all[r.Intn(17)]
	}
	switch {
	case r.Intn(4) == 0:
		return is(api.Int)
	case bigOf(low).Cmp(bigOf(high)) > 0:
		return bounded(high, low)
	}
	return bounded(low, high)
}

// someField is some field that may be, called so.
func someField(r *rand.Rand, name string, deep int) api.Field {
	f := api.Field{Kind: api.Kind(1 + r.Intn(6))}
	if deep > 1 && r.Intn(3) > 0 {
		f.Kind = api.Tuple
	}
	switch f.Kind {
	case api.Int:
		f = someBounds(r)
	case api.Bytes, api.Name:
		f.Most = r.Intn(7)
	case api.Text:
		all := collations()
		f.Collate = all[r.Intn(len(all))]
	case api.Tuple:
		for i := range 1 + r.Intn(4) {
			f.Fields = append(f.Fields, someField(r, "f"+strconv.Itoa(i), deep-1))
		}
	}
	f.Name, f.Down, f.Nulls = name, r.Intn(2) == 0, api.Nulls(r.Intn(3))
	return f
}

// nearField is a field that is otherwise than another one in one thing, or within.
func nearField(r *rand.Rand, f api.Field, deep int) api.Field {
	other := someField(r, f.Name, deep)
	switch n := r.Intn(8); {
	case n == 0:
		return other
	case n == 1:
		f.Down = !f.Down
	case n == 2:
		f.Nulls = other.Nulls
	case n == 3:
		f.Name = "z" + f.Name[1:]
	case f.Kind == api.Tuple:
		f.Fields = nearFields(r, f.Fields, deep-1)
	case f.Kind == api.Int:
		g := someBounds(r)
		f.Bounded, f.Low, f.High = g.Bounded, g.Low, g.High
	case f.Kind == api.Bytes || f.Kind == api.Name:
		f.Most = r.Intn(7)
	case f.Kind == api.Text:
		all := collations()
		f.Collate = all[r.Intn(len(all))]
	}
	return f
}

// nearFields are fields that are otherwise than others in one thing, or so.
func nearFields(r *rand.Rand, fields []api.Field, deep int) []api.Field {
	l := slices.Clone(fields)
	switch n := r.Intn(16); {
	case n == 0:
		return append(l, someField(r, "more", deep))
	case n == 1 && len(l) > 1:
		return l[:len(l)-1]
	}
	for range 1 + r.Intn(2) {
		i := r.Intn(len(l))
		l[i] = nearField(r, l[i], deep)
	}
	return l
}

// nearSchema is a schema that is otherwise than another one in one thing, or in few.
func nearSchema(r *rand.Rand, s api.Schema, deep int) api.Schema {
	for {
		out := api.Schema{Limit: api.MaxKey, Fields: nearFields(r, s.Fields, deep)}
		if schema.Check(out) == nil {
			return out
		}
	}
}

// anyPart is some value of a field, one of few.
func anyPart(r *rand.Rand, f api.Field) api.Part {
	if f.Nulls != api.NeverNull && r.Intn(3) == 0 {
		return null()
	}
	switch f.Kind {
	case api.Bool:
		return boolPart(r.Intn(2) == 0)
	case api.Int:
		return numPart(anyNumber(r, f))
	case api.Bytes, api.Name:
		return rawPart(f.Kind, strings.Repeat([]string{"a", "\x00"}[r.Intn(2)], r.Intn(min(f.Most, 9)+1)))
	case api.ID:
		return rawPart(api.ID, strings.Repeat("\x00", 15)+[]string{"\x00", "\x7f", "\x80", "\xff"}[r.Intn(4)])
	case api.Text:
		all := texts()
		return textPart(all[r.Intn(len(all))])
	}
	p := api.Part{Kind: api.Tuple}
	for _, g := range f.Fields {
		p.Items = append(p.Items, anyPart(r, g))
	}
	return p
}

// anyNumber is an edge that lies within the bounds, or one of them.
func anyNumber(r *rand.Rand, f api.Field) api.Num {
	low, high := plainRange(f)
	all := edges()
	for range 4 {
		if n := all[r.Intn(len(all))]; low.Cmp(bigOf(n)) <= 0 && bigOf(n).Cmp(high) <= 0 {
			return n
		}
	}
	return numOf([]*big.Int{low, high}[r.Intn(2)])
}

// anySchema is some schema that may be, whose keys are as long as they want.
func anySchema(r *rand.Rand, deep int) api.Schema {
	for {
		s := api.Schema{Limit: 65536}
		for i := range 1 + r.Intn(5) {
			s.Fields = append(s.Fields, someField(r, "f"+strconv.Itoa(i), deep))
		}
		if count(s.Fields) <= 64 {
			return s
		}
	}
}

// anyTuple is some tuple of a schema.
func anyTuple(r *rand.Rand, s api.Schema) api.Part {
	return anyPart(r, api.Field{Kind: api.Tuple, Fields: s.Fields})
}

// texts are spelt so that each level of the tables above tells two of them apart that those ahead of it do not.
func texts() []string {
	return []string{
		"", "a", "A", "b", "c", "d", "aa", "ab", "aA", "Aa", "dc", "a b", "a-b", "a~b", " ", "-", "~", " ab",
		"\u00e1", "a\u0301", "a\u0302", "\u00e1a", "a\u00e1", "aa\u0301", "A\u0301", "ab\u0301",
		"a\u0323", "\u0323", "a\u0323\u0301", "\u0323a", " \u0301", "\u4e00", "\u20ac", "\U0001f600", "\x00", "a\x00", "\x00\x00b",
	}
}

// magnitudes are of every size that counts, up to 255 bytes.
func magnitudes() []string {
	l := []string{"\x01", "\x02", "\x7f", "\x80", "\xfe", "\xff", "\x01\x00", "\x01\x01", "\x01\xff", "\x02\x00", "\xff\x00", "\xff\xff", "\x01\x00\x00",
		strings.Repeat("\xff", 8), "\x01" + strings.Repeat("\x00", 8)}
	for _, size := range []int{125, 126, 127, 128, 129, 254, 255} {
		l = append(l, "\x01"+strings.Repeat("\x00", size-1), "\x7f"+strings.Repeat("\xff", size-1), "\x80"+strings.Repeat("\x00", size-2)+"\x01", strings.Repeat("\xff", size))
	}
	return l
}
