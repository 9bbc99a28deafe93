package order

import (
	"bytes"
	"errors"
	"fmt"
	"math/big"
	"math/rand"
	"reflect"
	"slices"
	"strconv"
	"strings"
	"testing"

	"dovetail/api"
	"dovetail/fit"
	"dovetail/schema"
	"dovetail/value"
	"dovetail/weigh"
)

// What the tests hold the package against: the chapter's words, on parts, read by the library's means.

// Tables with an element of each sort: texts are told apart by one level only, or by none though their bytes differ.
const (
	oddMarks   = "0301;230;\n0302;230;\n0323;220;\n00E1;0;0061 0301"
	oddEntries = "0061;[.1000.0020.0002]\n" +
		"0041;[.1000.0020.0008]\n" + // by the third level
		"0062;[.1001.0020.0002]\n" +
		"0301;[.0000.0024.0002]\n" + // by the second level
		"0302;[.0000.0025.0002]\n" +
		"0323;[.0000.0000.0000]\n" + // by none
		"0020;[*0209.0020.0002]\n" + // by the fourth level, if it is shifted
		"002D;[*020A.0020.0002]\n" +
		"007E;[*020B.0020.0002]" // whose byte stands behind those of letters
)

func load(t testing.TB, marks, entries string) *weigh.Tables {
	t.Helper()
	x, e, which, line := weigh.Load(marks, entries)
	if e != api.OK {
		t.Fatalf("Load: %d, %d, %d", e, which, line)
	}
	return x
}

func odd(t testing.TB) *weigh.Tables { return load(t, oddMarks, oddEntries) }

func empty(t testing.TB) *weigh.Tables { return load(t, "", "") }

// collations are all that are right.
func collations() []api.Collate {
	var l []api.Collate
	for _, back := range []bool{false, true} {
		for strength := 1; strength <= 3; strength++ {
			l = append(l, api.Collate{Strength: strength, Back: back}, api.Collate{Strength: strength, Shifted: true, Back: back})
		}
		l = append(l, api.Collate{Strength: 4, Shifted: true, Back: back})
	}
	return l
}

// pair is a field and two values of it; turned: it stands within an odd number of tuples that fall.
type pair struct {
	f      api.Field
	a, b   api.Part
	turned bool
}

// plainStand is DOC.md's section on the order: the first pair that is not the same says it, where the package calls itself for what is within.
func plainStand(t testing.TB, x *weigh.Tables, f api.Field, a, b api.Part) int {
	t.Helper()
	left := []pair{{f, a, b, false}}
	for len(left) > 0 {
		one := left[0]
		left = left[1:]
		if one.a.Kind == api.Null || one.b.Kind == api.Null {
			if n := plainNull(one); n != 0 {
				return turnedIf(n, one.turned)
			}
			continue
		}
		turned := one.turned != one.f.Down
		if one.f.Kind != api.Tuple {
			if n := plainKind(t, x, one); n != 0 {
				return turnedIf(n, turned)
			}
			continue
		}
		var within []pair
		for i, g := range one.f.Fields {
			within = append(within, pair{g, one.a.Items[i], one.b.Items[i], turned})
		}
		left = append(within, left...)
	}
	return 0
}

func turnedIf(n int, turned bool) int {
	if turned {
		return -n
	}
	return n
}

// plainNull is the first point of P13.1.
func plainNull(p pair) int {
	switch {
	case p.a.Kind == api.Null && p.b.Kind == api.Null:
		return 0
	case p.a.Kind == api.Null && p.f.Nulls == api.NullFirst:
		return -1
	case p.a.Kind == api.Null && p.f.Nulls == api.NullLast:
		return 1
	case p.b.Kind == api.Null && p.f.Nulls == api.NullFirst:
		return 1
	}
	return -1
}

// plainKind is the second one, of a field that rises and is no tuple.
func plainKind(t testing.TB, x *weigh.Tables, p pair) int {
	t.Helper()
	switch p.f.Kind {
	case api.Bool:
		n := map[bool]int{false: 0, true: 1}
		return n[p.a.Yes] - n[p.b.Yes]
	case api.Int:
		return plainBig(p.a.Num).Cmp(plainBig(p.b.Num))
	case api.Text:
		n, e := x.Compare(p.f.Collate, p.a.Raw, p.b.Raw)
		if e != api.OK {
			t.Fatalf("%s: error %d", brief(p), e)
		}
		if n != 0 {
			return n
		}
	}
	return bytes.Compare([]byte(p.a.Raw), []byte(p.b.Raw))
}

func plainBig(n api.Num) *big.Int {
	x := new(big.Int).SetBytes([]byte(n.Mag))
	if n.Below {
		x.Neg(x)
	}
	return x
}

// plainKey is the bytes of a field, as DOC.md has them: of the order of such bytes P13.5 speaks.
func plainKey(t testing.TB, x *weigh.Tables, f api.Field, p api.Part, turned bool) []byte {
	t.Helper()
	if p.Kind == api.Null {
		return turnedBytes([]byte{map[api.Nulls]byte{api.NullFirst: 0x02, api.NullLast: 0x7d}[f.Nulls]}, turned)
	}
	tag := 0x10 + byte(f.Kind)
	if f.Down {
		tag += 0x10
	}
	key := turnedBytes([]byte{tag}, turned)
	turned = turned != f.Down
	if f.Kind == api.Tuple {
		for i, g := range f.Fields {
			key = append(key, plainKey(t, x, g, p.Items[i], turned)...)
		}
		return append(key, turnedBytes([]byte{1}, turned)...)
	}
	return append(key, turnedBytes(plainPayload(t, x, f, p), turned)...)
}

func turnedBytes(s []byte, turned bool) []byte {
	for i := range s {
		if turned {
			s[i] = 0xff - s[i]
		}
	}
	return s
}

// plainPayload is what stands behind the tag of what is no tuple, in a field that rises.
func plainPayload(t testing.TB, x *weigh.Tables, f api.Field, p api.Part) []byte {
	t.Helper()
	escaped := []byte(strings.ReplaceAll(p.Raw, "\x00", "\x00\xff") + "\x00\x01")
	switch f.Kind {
	case api.Bool:
		return []byte{map[bool]byte{false: 0, true: 1}[p.Yes]}
	case api.Int:
		return plainNumber(p.Num)
	case api.ID:
		return []byte(p.Raw)
	case api.Text:
		mode := 0x20 + byte(f.Collate.Strength)
		if f.Collate.Shifted {
			mode += 4
		}
		if f.Collate.Back {
			mode += 8
		}
		key, e := x.Key(f.Collate, p.Raw)
		if e != api.OK {
			t.Fatalf("%s: error %d", brief(p), e)
		}
		return slices.Concat([]byte{mode}, []byte(key), escaped)
	}
	return escaped
}

// plainNumber is a number's bytes.
func plainNumber(n api.Num) []byte {
	size := len(n.Mag)
	switch {
	case n.Below && size <= 0x7e:
		return append([]byte{byte(0x80 - size)}, turnedBytes([]byte(n.Mag), true)...)
	case n.Below:
		return append([]byte{0x01, byte(0xff - size)}, turnedBytes([]byte(n.Mag), true)...)
	case size <= 0x7e:
		return append([]byte{byte(0x80 + size)}, n.Mag...)
	}
	return append([]byte{0xff, byte(size)}, n.Mag...)
}

// plainFault is what is said ahead of any order: R5, and what is wrong with the first value, then with the second; nil, if nothing is.
func plainFault(x *weigh.Tables, bad, first, second error) error {
	switch {
	case x == nil:
		return &api.Fault{Code: api.ErrNil}
	case bad != nil:
		return &api.Fault{Code: api.ErrArg, Why: bad}
	case first != nil:
		return first
	}
	return second
}

// wantField: Field of these, by the words, both ways round, is that.
func wantField(t testing.TB, x *weigh.Tables, f api.Field, a, b api.Part, want int) {
	t.Helper()
	v, w := must(t, a), must(t, b)
	n, err := Field(x, f, v, w)
	m, bad := Field(x, f, w, v)
	if n != want || m != -want || err != nil || bad != nil {
		t.Fatalf("%s; %s, %s: %d, %s; %d, %s; not %d", brief(f), brief(a), brief(b), n, told(err), m, told(bad), want)
	}
	if plain := plainStand(t, x, f, a, b); plain != want {
		t.Fatalf("%s; %s, %s: the words say %d, not %d", brief(f), brief(a), brief(b), plain, want)
	}
}

// checkField holds Field of these against the words, both ways round.
func checkField(t testing.TB, x *weigh.Tables, f api.Field, a, b api.Part) {
	t.Helper()
	wantField(t, x, f, a, b, plainStand(t, x, f, a, b))
}

// wantCompare: Compare of these, by the words, both ways round, is that.
func wantCompare(t testing.TB, x *weigh.Tables, s api.Schema, a, b api.Part, want int) {
	t.Helper()
	v, w := must(t, a), must(t, b)
	n, err := Compare(x, s, v, w)
	m, bad := Compare(x, s, w, v)
	if n != want || m != -want || err != nil || bad != nil {
		t.Fatalf("%s; %s, %s: %d, %s; %d, %s; not %d", brief(s), brief(a), brief(b), n, told(err), m, told(bad), want)
	}
	if plain := plainStand(t, x, tupleField("", s.Fields...), a, b); plain != want {
		t.Fatalf("%s; %s, %s: the words say %d, not %d", brief(s), brief(a), brief(b), plain, want)
	}
}

// checkCompare holds Compare of these against the words, both ways round.
func checkCompare(t testing.TB, x *weigh.Tables, s api.Schema, a, b api.Part) {
	t.Helper()
	wantCompare(t, x, s, a, b, plainStand(t, x, tupleField("", s.Fields...), a, b))
}

// refusedField: Field of these is refused, by what is said of a field and its values; and what that is.
func refusedField(t testing.TB, x *weigh.Tables, f api.Field, a, b api.Part) *api.Fault {
	t.Helper()
	v, w := must(t, a), must(t, b)
	only := api.Schema{Limit: 65536, Fields: []api.Field{f}}
	want := plainFault(x, schema.Check(only), fit.Field(f, v), fit.Field(f, w))
	n, err := Field(x, f, v, w)
	return wantRefused(t, n, err, want)
}

// refusedCompare is the same of Compare.
func refusedCompare(t testing.TB, x *weigh.Tables, s api.Schema, a, b api.Part) *api.Fault {
	t.Helper()
	v, w := must(t, a), must(t, b)
	want := plainFault(x, schema.Check(s), fit.Check(s, v), fit.Check(s, w))
	n, err := Compare(x, s, v, w)
	return wantRefused(t, n, err, want)
}

// wantRefused: an answer is no order, and just that error.
func wantRefused(t testing.TB, n int, err, want error) *api.Fault {
	t.Helper()
	bad, is := err.(*api.Fault)
	if n != 0 || !is || bad == nil || !sameError(err, want) {
		t.Fatalf("%d, %s; not %s", n, told(err), told(want))
	}
	var as *api.Fault
	if !errors.As(err, &as) || as != bad || !errors.Is(err, bad.Code) {
		t.Fatalf("%s: not found by errors.As, errors.Is", told(err))
	}
	return bad
}

// wantFault: a Fault has this number, and this path, and comes of this number (0: of none).
func wantFault(t testing.TB, f *api.Fault, code, why api.Errno, path ...int) {
	t.Helper()
	if f.Code != code || !slices.Equal(f.Path, path) || (f.Why == nil) != (why == api.OK) || f.Why != nil && !errors.Is(f, why) {
		t.Errorf("%s, not error %d path %v why %d", told(f), code, path, why)
	}
}

// sameError tells whether two errors are of one type and have the same; a path without places may be nil or not.
func sameError(a, b error) bool {
	f, isF := a.(*api.Fault)
	g, isG := b.(*api.Fault)
	if isF && isG && f != nil && g != nil {
		return f.Code == g.Code && f.At == g.At && slices.Equal(f.Path, g.Path) && sameError(f.Why, g.Why)
	}
	return reflect.DeepEqual(a, b)
}

// told is an error in few words.
func told(err error) string {
	if f, is := err.(*api.Fault); is && f != nil {
		return fmt.Sprintf("error %d at %d path %v why (%s)", f.Code, f.At, f.Path, told(f.Why))
	}
	return fmt.Sprintf("%T %v", err, err)
}

// brief is what a test tells of something: as much as fits a few lines.
func brief(x any) string {
	s := fmt.Sprintf("%+v", x)
	return strconv.Quote(s[:min(len(s), 400)])
}

func num(n int64) api.Num { return api.Num{Below: n < 0, Mag: string(big.NewInt(n).Bytes())} }

func numPart(n api.Num) api.Part { return api.Part{Kind: api.Int, Num: n} }

func intPart(n int64) api.Part { return numPart(num(n)) }

func rawPart(k api.Kind, s string) api.Part { return api.Part{Kind: k, Raw: s} }

func textPart(s string) api.Part { return rawPart(api.Text, s) }

func boolPart(yes bool) api.Part { return api.Part{Kind: api.Bool, Yes: yes} }

func tuplePart(items ...api.Part) api.Part { return api.Part{Kind: api.Tuple, Items: items} }

func null() api.Part { return api.Part{} }

// must is the value of a part that may be.
func must(t testing.TB, p api.Part) value.Value {
	t.Helper()
	v, e := value.Make(p)
	if e != api.OK {
		t.Fatalf("%s: error %d", brief(p), e)
	}
	return v
}

// is is a field called a of that kind, with as much as its kind must say.
func is(k api.Kind) api.Field {
	f := api.Field{Name: "a", Kind: k}
	switch k {
	case api.Bytes, api.Name:
		f.Most = 65536
	case api.Text:
		f.Collate.Strength = 3
	case api.Tuple:
		f.Fields = []api.Field{is(api.Int)}
	}
	return f
}

func named(name string, f api.Field) api.Field {
	f.Name = name
	return f
}

func down(f api.Field) api.Field {
	f.Down = true
	return f
}

// turned is a field that falls where the other one rises, and rises where it falls.
func turned(f api.Field) api.Field {
	f.Down = !f.Down
	return f
}

func nulls(n api.Nulls, f api.Field) api.Field {
	f.Nulls = n
	return f
}

func collated(c api.Collate) api.Field { return api.Field{Name: "a", Kind: api.Text, Collate: c} }

func tupleField(name string, fields ...api.Field) api.Field {
	return api.Field{Name: name, Kind: api.Tuple, Fields: fields}
}

// of is a schema of these fields, called a, b and so on.
func of(fields ...api.Field) api.Schema { return api.Schema{Limit: 9, Fields: lettered(fields...)} }

func lettered(fields ...api.Field) []api.Field {
	l := slices.Clone(fields)
	for i := range l {
		l[i].Name = string(rune('a' + i))
	}
	return l
}

// count is how many fields there are, with those within.
func count(fields []api.Field) int {
	n := len(fields)
	for _, f := range fields {
		n += count(f.Fields)
	}
	return n
}

// anyField is some field that may be, called so.
func anyField(r *rand.Rand, name string, deep int) api.Field {
	f := api.Field{Name: name, Kind: api.Kind(1 + r.Intn(6)), Down: r.Intn(2) == 0, Nulls: api.Nulls(r.Intn(3))}
	if deep > 1 && r.Intn(3) == 0 {
		f.Kind = api.Tuple
	}
	switch f.Kind {
	case api.Int:
		if f.Bounded = r.Intn(2) == 0; f.Bounded {
			f.Low, f.High = num(-70000), num(70000)
		}
	case api.Bytes, api.Name:
		f.Most = 3 + r.Intn(7)
	case api.Text:
		all := collations()
		f.Collate = all[r.Intn(len(all))]
	case api.Tuple:
		f.Fields = anyFields(r, 1+r.Intn(4), deep-1)
	}
	return f
}

func anyFields(r *rand.Rand, n, deep int) []api.Field {
	var l []api.Field
	for i := range n {
		l = append(l, anyField(r, "f"+strconv.Itoa(i), deep))
	}
	return l
}

// anySchema is some schema that may be.
func anySchema(r *rand.Rand) api.Schema {
	for {
		s := api.Schema{Limit: 1 + r.Intn(65536), Fields: anyFields(r, 1+r.Intn(5), 1+r.Intn(5))}
		if count(s.Fields) <= 60 {
			return s
		}
	}
}

// anyPart is some value of a field, one of so few that two are often the same.
func anyPart(r *rand.Rand, f api.Field) api.Part {
	if f.Nulls != api.NeverNull && r.Intn(4) == 0 {
		return null()
	}
	switch f.Kind {
	case api.Bool:
		return boolPart(r.Intn(2) == 0)
	case api.Int:
		return intPart([]int64{-65536, -256, -255, -1, 0, 1, 255, 256, 65535}[r.Intn(9)])
	case api.Bytes:
		return rawPart(api.Bytes, []string{"", "\x00", "\x00\x00", "\x00\xff", "\x01", "\x7f", "\xff", "\xff\x00", "\xff\xff"}[r.Intn(9)])
	case api.ID:
		return rawPart(api.ID, strings.Repeat("\x00", 15)+[]string{"\x00", "\x7f", "\x80", "\xff"}[r.Intn(4)])
	case api.Name:
		return rawPart(api.Name, []string{"", "\x00", "a", "a\x00", "ab", "b", "\u00e1", "a\u0301"}[r.Intn(8)])
	case api.Text:
		all := texts()
		return textPart(all[r.Intn(len(all))])
	}
	return anyTuple(r, f.Fields)
}

func anyTuple(r *rand.Rand, fields []api.Field) api.Part {
	p := api.Part{Kind: api.Tuple}
	for _, f := range fields {
		p.Items = append(p.Items, anyPart(r, f))
	}
	return p
}

// near is a value of a field that is otherwise than another one in one place at most.
func near(r *rand.Rand, f api.Field, p api.Part) api.Part {
	if p.Kind != api.Tuple || r.Intn(6) == 0 {
		return anyPart(r, f)
	}
	p.Items = slices.Clone(p.Items)
	i := r.Intn(len(p.Items))
	p.Items[i] = near(r, f.Fields[i], p.Items[i])
	return p
}

// nearTuple is the same of a schema's.
func nearTuple(r *rand.Rand, s api.Schema, p api.Part) api.Part {
	p.Items = slices.Clone(p.Items)
	i := r.Intn(len(p.Items))
	p.Items[i] = near(r, s.Fields[i], p.Items[i])
	return p
}

// texts are spelt so that each level of the tables above tells two of them apart that those ahead of it do not.
func texts() []string {
	return []string{
		"", "a", "A", "b", "aa", "ab", "aA", "Aa", "a b", "a-b", "a~b", " ", "-", "~", " ab",
		"\u00e1", "a\u0301", "a\u0302", "\u00e1a", "a\u00e1", "aa\u0301", "A\u0301", "ab\u0301",
		"a\u0323", "\u0323", "a\u0323\u0301", "\u0323a", " \u0301", "\u4e00", "\u20ac", "\U0001f600", "\x00", "a\x00",
	}
}
