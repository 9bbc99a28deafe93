package span_test

import (
	"errors"
	"fmt"
	"math/big"
	"math/rand"
	"reflect"
	"slices"
	"strconv"
	"strings"
	"testing"

	"dovetail/api"
	"dovetail/fit"
	"dovetail/schema"
	"dovetail/span"
	"dovetail/value"
	"dovetail/weigh"
)

// What the tests hold the package against: bytes by DOC.md's "The bytes of a key", made of parts by the library's means; and the words of P16.1 to P16.4.

// Tables with an element of each sort: texts are told apart by one level only, or by none though their bytes differ.
const (
	oddMarks   = "0301;230;\n0302;230;\n0323;220;\n00E1;0;0061 0301"
	oddEntries = "0061;[.1000.0020.0002]\n" +
		"0041;[.1000.0020.0008]\n" + // by the third level
		"0062;[.1001.0020.0002]\n" +
		"0063;[.00FF.0020.0002]\n" + // weights with bytes 00 in them, that end no level
		"0064;[.FA00.0100.001F]\n" +
		"0301;[.0000.0024.0002]\n" + // by the second level
		"0302;[.0000.0025.0002]\n" +
		"0323;[.0000.0000.0000]\n" + // by none
		"0020;[*0209.0020.0002]\n" + // by the fourth level, if it is shifted
		"002D;[*020A.0020.0002]\n" +
		"007E;[*020B.0020.0002]" // whose byte stands behind those of letters
)

func load(t testing.TB, marks, entries string) *weigh.Tables {
	t.Helper()
	x, e, which, line := weigh.Load(marks, entries)
	if e != api.OK {
		t.Fatalf("Load: %d, %d, %d", e, which, line)
	}
	return x
}

func odd(t testing.TB) *weigh.Tables { return load(t, oddMarks, oddEntries) }

func empty(t testing.TB) *weigh.Tables { return load(t, "", "") }

// modes are all collations that are right, with their mode bytes.
func modes() map[api.Collate]byte {
	return map[api.Collate]byte{
		{Strength: 1}: 0x21, {Strength: 2}: 0x22, {Strength: 3}: 0x23,
		{Strength: 1, Shifted: true}: 0x25, {Strength: 2, Shifted: true}: 0x26, {Strength: 3, Shifted: true}: 0x27, {Strength: 4, Shifted: true}: 0x28,
		{Strength: 1, Back: true}: 0x29, {Strength: 2, Back: true}: 0x2a, {Strength: 3, Back: true}: 0x2b,
		{Strength: 1, Shifted: true, Back: true}: 0x2d, {Strength: 2, Shifted: true, Back: true}: 0x2e, {Strength: 3, Shifted: true, Back: true}: 0x2f, {Strength: 4, Shifted: true, Back: true}: 0x30,
	}
}

// collations are the same, always in one order.
func collations() []api.Collate {
	var l []api.Collate
	for c := range modes() {
		l = append(l, c)
	}
	slices.SortFunc(l, func(a, b api.Collate) int { return int(modes()[a]) - int(modes()[b]) })
	return l
}

// plainTag is the tag of what is not null.
func plainTag(f api.Field) byte {
	up := map[api.Kind]byte{api.Bool: 0x11, api.Int: 0x12, api.Bytes: 0x13, api.ID: 0x14, api.Name: 0x15, api.Text: 0x16, api.Tuple: 0x17}
	if f.Down {
		return up[f.Kind] + 0x10
	}
	return up[f.Kind]
}

// turnedBy is bytes that are turned that often.
func turnedBy(b []byte, turns int) []byte {
	out := slices.Clone(b)
	for range turns {
		for i := range out {
			out[i] = 0xff - out[i]
		}
	}
	return out
}

// plainPut is the bytes of a value of a field that stands in so many tuples that fall.
func plainPut(x *weigh.Tables, f api.Field, p api.Part, turns int) []byte {
	if p.Kind == api.Null {
		return turnedBy([]byte{map[api.Nulls]byte{api.NullFirst: 0x02, api.NullLast: 0x7d}[f.Nulls]}, turns)
	}
	out := turnedBy([]byte{plainTag(f)}, turns)
	if f.Down {
		turns++
	}
	if f.Kind != api.Tuple {
		return append(out, turnedBy(plainPayload(x, f, p), turns)...)
	}
	for i, g := range f.Fields {
		out = append(out, plainPut(x, g, p.Items[i], turns)...)
	}
	return append(out, turnedBy([]byte{0x01}, turns)...)
}

// plainPayload is what stands behind the tag of what is no tuple, where nothing falls.
func plainPayload(x *weigh.Tables, f api.Field, p api.Part) []byte {
	switch f.Kind {
	case api.Bool:
		return []byte{map[bool]byte{false: 0, true: 1}[p.Yes]}
	case api.Int:
		return plainNumber(p.Num)
	case api.ID:
		return []byte(p.Raw)
	case api.Text:
		key, _ := x.Key(f.Collate, p.Raw)
		return slices.Concat([]byte{modes()[f.Collate]}, []byte(key), escaped(p.Raw))
	}
	return escaped(p.Raw)
}

func escaped(s string) []byte {
	return []byte(strings.ReplaceAll(s, "\x00", "\x00\xff") + "\x00\x01")
}

// plainNumber is a number's bytes.
func plainNumber(n api.Num) []byte {
	size := len(n.Mag)
	switch {
	case n.Below && size <= 0x7e:
		return append([]byte{byte(0x80 - size)}, turnedBy([]byte(n.Mag), 1)...)
	case n.Below:
		return append([]byte{0x01, byte(0xff - size)}, turnedBy([]byte(n.Mag), 1)...)
	case size <= 0x7e:
		return append([]byte{byte(0x80 + size)}, n.Mag...)
	}
	return append([]byte{0xff, byte(size)}, n.Mag...)
}

// plainKey is a tuple's key, however long.
func plainKey(x *weigh.Tables, s api.Schema, p api.Part) string {
	var out []byte
	for i, f := range s.Fields {
		out = append(out, plainPut(x, f, p.Items[i], 0)...)
	}
	return string(out)
}

// plainNext is the least bytes above all that begin so; none, if there are none.
func plainNext(s string) (string, bool) {
	b := []byte(s)
	for len(b) > 0 {
		last := len(b) - 1
		if b[last] < 0xff {
			b[last]++
			return string(b), true
		}
		b = b[:last]
	}
	return "", false
}

// plainAll is all that begins with these bytes.
func plainAll(p string) api.Span {
	if to, is := plainNext(p); is {
		return api.Span{From: p, To: to}
	}
	return api.Span{From: p, Open: true}
}

// plainUnfit is what fit.Field says of a value, in the field at a place.
func plainUnfit(f api.Field, place int, v value.Value) *api.Fault {
	err := fit.Field(f, v)
	if err == nil {
		return nil
	}
	bad := err.(*api.Fault)
	return &api.Fault{Code: bad.Code, At: bad.At, Path: append([]int{place}, bad.Path...), Why: bad.Why}
}

// plainBegin is the bytes of a beginning, or Prefix's error.
func plainBegin(x *weigh.Tables, s api.Schema, v value.Value) (string, *api.Fault) {
	if x == nil {
		return "", &api.Fault{Code: api.ErrNil}
	}
	if bad := schema.Check(s); bad != nil {
		return "", &api.Fault{Code: api.ErrArg, Why: bad}
	}
	p := value.Tell(v)
	switch {
	case p.Kind != api.Tuple:
		return "", &api.Fault{Code: api.ErrKind}
	case len(p.Items) > len(s.Fields):
		return "", &api.Fault{Code: api.ErrSpanDeep}
	}
	l, _ := value.AsList(v)
	for i := range p.Items {
		if bad := plainUnfit(s.Fields[i], i, l.At(i)); bad != nil {
			return "", bad
		}
	}
	return plainKey(x, api.Schema{Fields: s.Fields[:len(p.Items)]}, p), nil
}

// plainPrefix is P16.1.
func plainPrefix(x *weigh.Tables, s api.Schema, v value.Value) (api.Span, *api.Fault) {
	p, bad := plainBegin(x, s, v)
	if bad != nil {
		return api.Span{}, bad
	}
	return plainAll(p), nil
}

// plainBounds is P16.2: all beginnings and all ends, and of these the greatest and the least.
func plainBounds(x *weigh.Tables, s api.Schema, v value.Value, l []api.Bound) (api.Span, *api.Fault) {
	p, bad := plainBegin(x, s, v)
	if bad != nil {
		return api.Span{}, bad
	}
	place := len(value.Tell(v).Items)
	if place == len(s.Fields) {
		return api.Span{}, &api.Fault{Code: api.ErrSpanDeep}
	}
	from, to := []string{p}, []string{}
	if end, is := plainNext(p); is {
		to = append(to, end)
	}
	for _, b := range l {
		w, e := value.Make(b.Part)
		if e != api.OK {
			return api.Span{}, &api.Fault{Code: e, Path: []int{place}}
		}
		if bad := plainUnfit(s.Fields[place], place, w); bad != nil {
			return api.Span{}, bad
		}
		q := p + string(plainPut(x, s.Fields[place], b.Part, 0))
		behind, _ := plainNext(q)
		switch {
		case b.Above && b.Equal:
			from = append(from, q)
		case b.Above:
			from = append(from, behind)
		case b.Equal:
			to = append(to, behind)
		default:
			to = append(to, q)
		}
	}
	if len(to) == 0 {
		return api.Span{From: slices.Max(from), Open: true}, nil
	}
	return api.Span{From: slices.Max(from), To: slices.Min(to)}, nil
}

// plainStarts is P16.3.
func plainStarts(x *weigh.Tables, s api.Schema, v value.Value, start string) (api.Span, *api.Fault) {
	p, bad := plainBegin(x, s, v)
	if bad != nil {
		return api.Span{}, bad
	}
	place := len(value.Tell(v).Items)
	if place == len(s.Fields) {
		return api.Span{}, &api.Fault{Code: api.ErrSpanDeep}
	}
	f := s.Fields[place]
	if f.Kind != api.Bytes && f.Kind != api.Name {
		return api.Span{}, &api.Fault{Code: api.ErrSpanKind, Path: []int{place}}
	}
	begun := []byte(strings.ReplaceAll(start, "\x00", "\x00\xff"))
	if f.Down {
		begun = turnedBy(begun, 1)
	}
	return plainAll(p + string(append([]byte{plainTag(f)}, begun...))), nil
}

// ask is one of the three calls that answer a span, with all but the tables and the schema.
type ask struct {
	call  string // prefix, bounds, starts
	p     api.Part
	l     []api.Bound
	start string
}

func prefix(items ...api.Part) ask { return ask{call: "prefix", p: tuplePart(items...)} }

func bounds(p api.Part, l ...api.Bound) ask { return ask{call: "bounds", p: p, l: l} }

func starts(p api.Part, start string) ask { return ask{call: "starts", p: p, start: start} }

// answer is what the call answers.
func (a ask) answer(t testing.TB, x *weigh.Tables, s api.Schema) (api.Span, error) {
	t.Helper()
	v := must(t, a.p)
	switch a.call {
	case "prefix":
		return span.Prefix(x, s, v)
	case "bounds":
		return span.Bounds(x, s, v, a.l)
	}
	return span.Starts(x, s, v, a.start)
}

// plain is what the words say of it.
func (a ask) plain(t testing.TB, x *weigh.Tables, s api.Schema) (api.Span, *api.Fault) {
	t.Helper()
	v := must(t, a.p)
	switch a.call {
	case "prefix":
		return plainPrefix(x, s, v)
	case "bounds":
		return plainBounds(x, s, v, a.l)
	}
	return plainStarts(x, s, v, a.start)
}

// wantSpan: the answer is that span; and so it is by the words.
func wantSpan(t testing.TB, x *weigh.Tables, s api.Schema, a ask, want api.Span) {
	t.Helper()
	got, err := a.answer(t, x, s)
	if got != want || err != nil {
		t.Fatalf("%s; %s: %s, %s; not %s", brief(s), brief(a), hexes(got), told(err), hexes(want))
	}
	if got, bad := a.plain(t, x, s); got != want || bad != nil {
		t.Fatalf("%s; %s: the words say %s, %s; not %s", brief(s), brief(a), hexes(got), told(bad), hexes(want))
	}
}

// wantBad: the answer is just this error, and nothing beside it; and so it is by the words.
func wantBad(t testing.TB, x *weigh.Tables, s api.Schema, a ask, want *api.Fault) {
	t.Helper()
	got, err := a.answer(t, x, s)
	if got != (api.Span{}) || !sameError(err, want) {
		t.Fatalf("%s; %s: %s, %s; not %s", brief(s), brief(a), hexes(got), told(err), told(want))
	}
	if _, bad := a.plain(t, x, s); bad == nil || !sameError(bad, want) {
		t.Fatalf("%s; %s: the words say %s; not %s", brief(s), brief(a), told(bad), told(want))
	}
	isFault(t, err)
}

// check holds an answer against the words: the span, if there is one.
func check(t testing.TB, x *weigh.Tables, s api.Schema, a ask) (api.Span, bool) {
	t.Helper()
	got, bad := a.plain(t, x, s)
	if bad != nil {
		wantBad(t, x, s, a, bad)
		return api.Span{}, false
	}
	wantSpan(t, x, s, a, got)
	return got, true
}

func fromTo(from, to string) api.Span { return api.Span{From: from, To: to} }

func openFrom(from string) api.Span { return api.Span{From: from, Open: true} }

func above(p api.Part) api.Bound { return api.Bound{Above: true, Part: p} }

func aboveEqual(p api.Part) api.Bound { return api.Bound{Above: true, Equal: true, Part: p} }

func below(p api.Part) api.Bound { return api.Bound{Part: p} }

func belowEqual(p api.Part) api.Bound { return api.Bound{Equal: true, Part: p} }

// wrong is a Fault with nothing else than its number.
func wrong(code api.Errno) *api.Fault { return &api.Fault{Code: code} }

// wrongIn is one with a path besides.
func wrongIn(code api.Errno, path ...int) *api.Fault { return &api.Fault{Code: code, Path: path} }

// isFault is an error that errors.As and errors.Is find as DOC.md has it.
func isFault(t testing.TB, err error) *api.Fault {
	t.Helper()
	bad, is := err.(*api.Fault)
	var as *api.Fault
	if !is || bad == nil || !errors.As(err, &as) || as != bad || !errors.Is(err, bad.Code) || bad.Why != nil && !errors.Is(err, bad.Why) {
		t.Fatalf("%s: no Fault", told(err))
	}
	return bad
}

// sameError tells whether two errors are of one type and have the same; a path without places may be nil or not.
func sameError(a, b error) bool {
	f, isF := a.(*api.Fault)
	g, isG := b.(*api.Fault)
	if isF && isG && f != nil && g != nil {
		return f.Code == g.Code && f.At == g.At && slices.Equal(f.Path, g.Path) && sameError(f.Why, g.Why)
	}
	return reflect.DeepEqual(a, b)
}

// told is an error in few words.
func told(err error) string {
	if f, is := err.(*api.Fault); is && f != nil {
		return fmt.Sprintf("error %d at %d path %v why (%s)", f.Code, f.At, f.Path, told(f.Why))
	}
	return fmt.Sprintf("%T %v", err, err)
}

// brief is what a test tells of something: as much as fits a few lines.
func brief(x any) string {
	s := fmt.Sprintf("%+v", x)
	return strconv.Quote(s[:min(len(s), 400)])
}

func hexes(a api.Span) string {
	return fmt.Sprintf("from %s to %s open %v", hex(a.From), hex(a.To), a.Open)
}

func hex(s string) string { return fmt.Sprintf("%d bytes % x", len(s), s[:min(len(s), 100)]) }

func num(n int64) api.Num { return api.Num{Below: n < 0, Mag: string(big.NewInt(n).Bytes())} }

func numPart(n api.Num) api.Part { return api.Part{Kind: api.Int, Num: n} }

func intPart(n int64) api.Part { return numPart(num(n)) }

func rawPart(k api.Kind, s string) api.Part { return api.Part{Kind: k, Raw: s} }

func bytesPart(s string) api.Part { return rawPart(api.Bytes, s) }

func namePart(s string) api.Part { return rawPart(api.Name, s) }

func textPart(s string) api.Part { return rawPart(api.Text, s) }

func boolPart(yes bool) api.Part { return api.Part{Kind: api.Bool, Yes: yes} }

func tuplePart(items ...api.Part) api.Part { return api.Part{Kind: api.Tuple, Items: items} }

func null() api.Part { return api.Part{} }

// must is the value of a part that may be.
func must(t testing.TB, p api.Part) value.Value {
	t.Helper()
	v, e := value.Make(p)
	if e != api.OK {
		t.Fatalf("%s: error %d", brief(p), e)
	}
	return v
}

// is is a field called a of that kind, with as much as its kind must say.
func is(k api.Kind) api.Field {
	f := api.Field{Name: "a", Kind: k}
	switch k {
	case api.Bytes, api.Name:
		f.Most = 65536
	case api.Text:
		f.Collate.Strength = 3
	case api.Tuple:
		f.Fields = []api.Field{is(api.Int)}
	}
	return f
}

func named(name string, f api.Field) api.Field {
	f.Name = name
	return f
}

func down(f api.Field) api.Field {
	f.Down = true
	return f
}

func nulls(n api.Nulls, f api.Field) api.Field {
	f.Nulls = n
	return f
}

func most(n int, f api.Field) api.Field {
	f.Most = n
	return f
}

func bounded(low, high api.Num) api.Field {
	return api.Field{Name: "a", Kind: api.Int, Bounded: true, Low: low, High: high}
}

func collated(c api.Collate) api.Field { return api.Field{Name: "a", Kind: api.Text, Collate: c} }

// tupleOf is a field of tuples of these fields, which are called a, b and so on.
func tupleOf(fields ...api.Field) api.Field {
	l := slices.Clone(fields)
	for i := range l {
		l[i].Name = string(rune('a' + i))
	}
	return api.Field{Name: "a", Kind: api.Tuple, Fields: l}
}

// schemaOf is a schema of these fields, which are called a, b and so on.
func schemaOf(limit int, fields ...api.Field) api.Schema {
	return api.Schema{Limit: limit, Fields: tupleOf(fields...).Fields}
}

// count is how many fields there are, with those within.
func count(fields []api.Field) int {
	n := len(fields)
	for _, f := range fields {
		n += count(f.Fields)
	}
	return n
}

// someField is some field that may be, called so.
func someField(r *rand.Rand, name string, deep int) api.Field {
	f := api.Field{Name: name, Kind: api.Kind(1 + r.Intn(6)), Down: r.Intn(2) == 0, Nulls: api.Nulls(r.Intn(3))}
	if deep > 1 && r.Intn(3) > 0 {
		f.Kind = api.Tuple
	}
	switch f.Kind {
	case api.Int:
		if f.Bounded = r.Intn(2) == 0; f.Bounded {
			f.Low, f.High = num(-65536), num(65535)
		}
	case api.Bytes, api.Name:
		f.Most = 3 + r.Intn(7)
	case api.Text:
		all := collations()
		f.Collate = all[r.Intn(len(all))]
	case api.Tuple:
		for i := range 1 + r.Intn(4) {
			f.Fields = append(f.Fields, someField(r, "f"+strconv.Itoa(i), deep-1))
		}
	}
	return f
}

// anyPart is some value of a field, one of so few that two are often the same.
func anyPart(r *rand.Rand, f api.Field) api.Part {
	if f.Nulls != api.NeverNull && r.Intn(4) == 0 {
		return null()
	}
	switch f.Kind {
	case api.Bool:
		return boolPart(r.Intn(2) == 0)
	case api.Int:
		return intPart([]int64{-65536, -256, -255, -1, 0, 1, 255, 256, 65535}[r.Intn(9)])
	case api.Bytes:
		return bytesPart([]string{"", "\x00", "\x00\x00", "\x00\xff", "\x01", "\x7f", "\xff", "\xff\x00", "\xff\xff"}[r.Intn(9)])
	case api.ID:
		return rawPart(api.ID, strings.Repeat("\x00", 15)+[]string{"\x00", "\x7f", "\x80", "\xff"}[r.Intn(4)])
	case api.Name:
		return namePart([]string{"", "\x00", "a", "a\x00", "ab", "b", "\u00e1", "a\u0301"}[r.Intn(8)])
	case api.Text:
		all := texts()
		return textPart(all[r.Intn(len(all))])
	}
	p := api.Part{Kind: api.Tuple}
	for _, g := range f.Fields {
		p.Items = append(p.Items, anyPart(r, g))
	}
	return p
}

// anySchema is some schema that may be, whose keys are as long as they want.
func anySchema(r *rand.Rand, deep int) api.Schema {
	for {
		s := api.Schema{Limit: 65536}
		for i := range 1 + r.Intn(5) {
			s.Fields = append(s.Fields, someField(r, "f"+strconv.Itoa(i), deep))
		}
		if count(s.Fields) <= 64 {
			return s
		}
	}
}

// anyTuple is some tuple of a schema.
func anyTuple(r *rand.Rand, s api.Schema) api.Part {
	return anyPart(r, api.Field{Kind: api.Tuple, Fields: s.Fields})
}

// nearTuple is a tuple of a schema that is otherwise than another one in one place at most.
func nearTuple(r *rand.Rand, s api.Schema, p api.Part) api.Part {
	p.Items = slices.Clone(p.Items)
	i := r.Intn(len(p.Items))
	p.Items[i] = near(r, s.Fields[i], p.Items[i])
	return p
}

// near is a value of a field that is otherwise than another one in one place at most.
func near(r *rand.Rand, f api.Field, p api.Part) api.Part {
	if p.Kind != api.Tuple || r.Intn(6) == 0 {
		return anyPart(r, f)
	}
	p.Items = slices.Clone(p.Items)
	i := r.Intn(len(p.Items))
	p.Items[i] = near(r, f.Fields[i], p.Items[i])
	return p
}

// texts are spelt so that each level of the tables above tells two of them apart that those ahead of it do not.
func texts() []string {
	return []string{
		"", "a", "A", "b", "c", "d", "aa", "ab", "aA", "Aa", "dc", "a b", "a-b", "a~b", " ", "-", "~", " ab",
		"\u00e1", "a\u0301", "a\u0302", "\u00e1a", "a\u00e1", "aa\u0301", "A\u0301", "ab\u0301",
		"a\u0323", "\u0323", "a\u0323\u0301", "\u0323a", " \u0301", "\u4e00", "\u20ac", "\U0001f600", "\x00", "a\x00", "\x00\x00b",
	}
}

// samples are values of each kind, for is of it: the edges among them.
func samples() map[api.Kind][]api.Part {
	m := map[api.Kind][]api.Part{
		api.Bool:  {boolPart(false), boolPart(true)},
		api.ID:    {rawPart(api.ID, strings.Repeat("\x00", 16)), rawPart(api.ID, "0123456789abcdef"), rawPart(api.ID, "\x00\x01\x00\xff\xff\xff\xff\xff\xff\xff\xff\xff\xff\xff\x00\x01"), rawPart(api.ID, strings.Repeat("\xff", 16))},
		api.Tuple: {tuplePart(intPart(-9)), tuplePart(intPart(0)), tuplePart(intPart(256))},
	}
	for _, s := range []string{"", "\x00", "\x00\x00", "\x00\x01", "\x00\xff", "\x01", "a", "a\x00", "a\x00b", "\xff", "\xff\x00", "\xff\xff", "\xfe", "\x7f\x80"} {
		m[api.Bytes] = append(m[api.Bytes], bytesPart(s))
	}
	for _, s := range []string{"", "\x00", "\x00\x01", "a", "a\x00", "a\x00b", "\u007f", "\u0080", "\u00e1", "a\u0301", "\u07ff", "\u0800", "\uffff", "\U00010000", "\U0010ffff"} {
		m[api.Name] = append(m[api.Name], namePart(s))
	}
	for _, s := range texts() {
		m[api.Text] = append(m[api.Text], textPart(s))
	}
	m[api.Int] = []api.Part{intPart(0)}
	for _, s := range magnitudes() {
		m[api.Int] = append(m[api.Int], numPart(api.Num{Mag: s}), numPart(api.Num{Below: true, Mag: s}))
	}
	return m
}

// magnitudes are of every size that counts, up to 255 bytes.
func magnitudes() []string {
	l := []string{"\x01", "\x02", "\x7f", "\x80", "\xfe", "\xff", "\x01\x00", "\x01\x01", "\x01\xff", "\x02\x00", "\xff\x00", "\xff\xff", "\x01\x00\x00",
		strings.Repeat("\xff", 8), "\x01" + strings.Repeat("\x00", 8)}
	for _, size := range []int{125, 126, 127, 128, 129, 254, 255} {
		l = append(l, "\x01"+strings.Repeat("\x00", size-1), "\x7f"+strings.Repeat("\xff", size-1), "\x80"+strings.Repeat("\x00", size-2)+"\x01", strings.Repeat("\xff", size))
	}
	return l
}
