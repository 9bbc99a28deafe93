package pack_test

import (
	"errors"
	"fmt"
	"math/big"
	"math/rand"
	"reflect"
	"slices"
	"strconv"
	"strings"
	"testing"

	"dovetail/api"
	"dovetail/field"
	"dovetail/fit"
	"dovetail/pack"
	"dovetail/schema"
	"dovetail/value"
	"dovetail/weigh"
)

// What the tests hold the package against: keys by DOC.md's "The bytes of a key", made of parts by the library's means; and the words of P15.1 and P15.2.

// Tables with an element of each sort: texts are told apart by one level only, or by none though their bytes differ.
const (
	oddMarks   = "0301;230;\n0302;230;\n0323;220;\n00E1;0;0061 0301"
	oddEntries = "0061;[.1000.0020.0002]\n" +
		"0041;[.1000.0020.0008]\n" + // by the third level
		"0062;[.1001.0020.0002]\n" +
		"0063;[.00FF.0020.0002]\n" + // weights with bytes 00 in them, that end no level
		"0064;[.FA00.0100.001F]\n" +
		"0301;[.0000.0024.0002]\n" + // by the second level
		"0302;[.0000.0025.0002]\n" +
		"0323;[.0000.0000.0000]\n" + // by none
		"0020;[*0209.0020.0002]\n" + // by the fourth level, if it is shifted
		"002D;[*020A.0020.0002]\n" +
		"007E;[*020B.0020.0002]" // whose byte stands behind those of letters
)

func load(t testing.TB, marks, entries string) *weigh.Tables {
	t.Helper()
	x, e, which, line := weigh.Load(marks, entries)
	if e != api.OK {
		t.Fatalf("Load: %d, %d, %d", e, which, line)
	}
	return x
}

func odd(t testing.TB) *weigh.Tables { return load(t, oddMarks, oddEntries) }

func empty(t testing.TB) *weigh.Tables { return load(t, "", "") }

// modes are all collations that are right, with their mode bytes.
func modes() map[api.Collate]byte {
	return map[api.Collate]byte{
		{Strength: 1}: 0x21, {Strength: 2}: 0x22, {Strength: 3}: 0x23,
		{Strength: 1, Shifted: true}: 0x25, {Strength: 2, Shifted: true}: 0x26, {Strength: 3, Shifted: true}: 0x27, {Strength: 4, Shifted: true}: 0x28,
		{Strength: 1, Back: true}: 0x29, {Strength: 2, Back: true}: 0x2a, {Strength: 3, Back: true}: 0x2b,
		{Strength: 1, Shifted: true, Back: true}: 0x2d, {Strength: 2, Shifted: true, Back: true}: 0x2e, {Strength: 3, Shifted: true, Back: true}: 0x2f, {Strength: 4, Shifted: true, Back: true}: 0x30,
	}
}

// collations are the same, always in one order.
func collations() []api.Collate {
	var l []api.Collate
	for c := range modes() {
		l = append(l, c)
	}
	slices.SortFunc(l, func(a, b api.Collate) int { return int(modes()[a]) - int(modes()[b]) })
	return l
}

// plainTag is the tag of what is not null.
func plainTag(f api.Field) byte {
	up := map[api.Kind]byte{api.Bool: 0x11, api.Int: 0x12, api.Bytes: 0x13, api.ID: 0x14, api.Name: 0x15, api.Text: 0x16, api.Tuple: 0x17}
	if f.Down {
		return up[f.Kind] + 0x10
	}
	return up[f.Kind]
}

// turnedBy is bytes that are turned that often.
func turnedBy(b []byte, turns int) []byte {
	out := slices.Clone(b)
	for range turns {
		for i := range out {
			out[i] = 0xff - out[i]
		}
	}
	return out
}

// plainPut is the bytes of a value of a field that stands in so many tuples that fall.
func plainPut(x *weigh.Tables, f api.Field, p api.Part, turns int) []byte {
	if p.Kind == api.Null {
		return turnedBy([]byte{map[api.Nulls]byte{api.NullFirst: 0x02, api.NullLast: 0x7d}[f.Nulls]}, turns)
	}
	out := turnedBy([]byte{plainTag(f)}, turns)
	if f.Down {
		turns++
	}
	if f.Kind != api.Tuple {
		return append(out, turnedBy(plainPayload(x, f, p), turns)...)
	}
	for i, g := range f.Fields {
		out = append(out, plainPut(x, g, p.Items[i], turns)...)
	}
	return append(out, turnedBy([]byte{0x01}, turns)...)
}

// plainPayload is what stands behind the tag of what is no tuple, where nothing falls.
func plainPayload(x *weigh.Tables, f api.Field, p api.Part) []byte {
	switch f.Kind {
	case api.Bool:
		return []byte{map[bool]byte{false: 0, true: 1}[p.Yes]}
	case api.Int:
		return plainNumber(p.Num)
	case api.ID:
		return []byte(p.Raw)
	case api.Text:
		key, _ := x.Key(f.Collate, p.Raw)
		return slices.Concat([]byte{modes()[f.Collate]}, []byte(key), escaped(p.Raw))
	}
	return escaped(p.Raw)
}

func escaped(s string) []byte {
	return []byte(strings.ReplaceAll(s, "\x00", "\x00\xff") + "\x00\x01")
}

// plainNumber is a number's bytes.
func plainNumber(n api.Num) []byte {
	size := len(n.Mag)
	switch {
	case n.Below && size <= 0x7e:
		return append([]byte{byte(0x80 - size)}, turnedBy([]byte(n.Mag), 1)...)
	case n.Below:
		return append([]byte{0x01, byte(0xff - size)}, turnedBy([]byte(n.Mag), 1)...)
	case size <= 0x7e:
		return append([]byte{byte(0x80 + size)}, n.Mag...)
	}
	return append([]byte{0xff, byte(size)}, n.Mag...)
}

// plainKey is a tuple's key, however long.
func plainKey(x *weigh.Tables, s api.Schema, p api.Part) string {
	var out []byte
	for i, f := range s.Fields {
		out = append(out, plainPut(x, f, p.Items[i], 0)...)
	}
	return string(out)
}

// plainEncode is P15.1.
func plainEncode(x *weigh.Tables, s api.Schema, p api.Part, v value.Value) (string, error) {
	if x == nil {
		return "", &api.Fault{Code: api.ErrNil}
	}
	if bad := schema.Check(s); bad != nil {
		return "", &api.Fault{Code: api.ErrArg, Why: bad}
	}
	if bad := fit.Check(s, v); bad != nil {
		return "", bad
	}
	key := plainKey(x, s, p)
	if len(key) > s.Limit {
		return "", &api.Fault{Code: api.ErrPackLong}
	}
	return key, nil
}

// plainDecode is P15.2, with the tuple as a part.
func plainDecode(x *weigh.Tables, s api.Schema, key string) (api.Part, error) {
	if x == nil {
		return api.Part{}, &api.Fault{Code: api.ErrNil}
	}
	if bad := schema.Check(s); bad != nil {
		return api.Part{}, &api.Fault{Code: api.ErrArg, Why: bad}
	}
	if len(key) > s.Limit {
		return api.Part{}, &api.Fault{Code: api.ErrPackLong, At: s.Limit}
	}
	p, left := api.Part{Kind: api.Tuple}, key
	for i, f := range s.Fields {
		v, n, err := field.Take(x, f, left)
		if err != nil {
			bad := err.(*api.Fault)
			return api.Part{}, &api.Fault{Code: bad.Code, At: bad.At + len(key) - len(left), Path: append([]int{i}, bad.Path...), Why: err}
		}
		p.Items, left = append(p.Items, value.Tell(v)), left[n:]
	}
	if left != "" {
		return api.Part{}, &api.Fault{Code: api.ErrPackMore, At: len(key) - len(left)}
	}
	return p, nil
}

// wantKey: Encode of a tuple is that; and so it is by the words; and Decode of it is the tuple.
func wantKey(t testing.TB, x *weigh.Tables, s api.Schema, p api.Part, want string) {
	t.Helper()
	v := must(t, p)
	key, err := pack.Encode(x, s, v)
	if key != want || err != nil {
		t.Fatalf("%s; %s: %s, %s; not %s", brief(s), brief(p), hex(key), told(err), hex(want))
	}
	if plain, err := plainEncode(x, s, p, v); plain != want || err != nil {
		t.Fatalf("%s; %s: the words say %s, %s, not %s", brief(s), brief(p), hex(plain), told(err), hex(want))
	}
	wantTuple(t, x, s, want, p)
}

// keyOf is a tuple's key, held against the words.
func keyOf(t testing.TB, x *weigh.Tables, s api.Schema, p api.Part) string {
	t.Helper()
	key := plainKey(x, s, p)
	wantKey(t, x, s, p, key)
	return key
}

// wantUnkeyed: Encode answers just this error, and nothing beside it; and so it is by the words.
func wantUnkeyed(t testing.TB, x *weigh.Tables, s api.Schema, p api.Part, want *api.Fault) {
	t.Helper()
	v := must(t, p)
	key, err := pack.Encode(x, s, v)
	if key != "" || !sameError(err, want) {
		t.Fatalf("%s; %s: %s, %s; not %s", brief(s), brief(p), hex(key), told(err), told(want))
	}
	if _, bad := plainEncode(x, s, p, v); !sameError(bad, want) {
		t.Fatalf("%s; %s: the words say %s, not %s", brief(s), brief(p), told(bad), told(want))
	}
	isFault(t, err)
}

// wantTuple: Decode of bytes is that tuple; and so it is by the words.
func wantTuple(t testing.TB, x *weigh.Tables, s api.Schema, key string, want api.Part) {
	t.Helper()
	v, err := pack.Decode(x, s, key)
	if err != nil || v == nil || !reflect.DeepEqual(value.Tell(v), want) {
		t.Fatalf("%s; %s: %s, %s; not %s", brief(s), hex(key), brief(value.Tell(v)), told(err), brief(want))
	}
	if p, err := plainDecode(x, s, key); err != nil || !reflect.DeepEqual(p, want) {
		t.Fatalf("%s; %s: the words say %s, %s; not %s", brief(s), hex(key), brief(p), told(err), brief(want))
	}
}

// wantNoKey: Decode of bytes answers just this error, and nothing beside it; and so it is by the words.
func wantNoKey(t testing.TB, x *weigh.Tables, s api.Schema, key string, want *api.Fault) {
	t.Helper()
	v, err := pack.Decode(x, s, key)
	if v != nil || !sameError(err, want) {
		t.Fatalf("%s; %s: %s, %s; not %s", brief(s), hex(key), brief(value.Tell(v)), told(err), told(want))
	}
	if _, bad := plainDecode(x, s, key); !sameError(bad, want) {
		t.Fatalf("%s; %s: the words say %s, not %s", brief(s), hex(key), told(bad), told(want))
	}
	if isFault(t, err).At > len(key) {
		t.Fatalf("%s; %s: %s", brief(s), hex(key), told(err))
	}
}

// checkDecode holds Decode of bytes against the words: a tuple whose key they are, or what these say is wrong.
func checkDecode(t testing.TB, x *weigh.Tables, s api.Schema, key string) *api.Fault {
	t.Helper()
	p, err := plainDecode(x, s, key)
	if err != nil {
		wantNoKey(t, x, s, key, err.(*api.Fault))
		return err.(*api.Fault)
	}
	wantKey(t, x, s, p, key)
	return nil
}

// wrong is a Fault without a path, and nothing that it comes of.
func wrong(code api.Errno, at int) *api.Fault { return &api.Fault{Code: code, At: at} }

// inField is what Decode tells of what a field refuses: the field's own Fault, so many bytes further on, in the field at that place.
func inField(place, ahead int, bad api.Fault) *api.Fault {
	return &api.Fault{Code: bad.Code, At: ahead + bad.At, Path: append([]int{place}, bad.Path...), Why: &bad}
}

// isFault is an error that errors.As and errors.Is find as DOC.md has it.
func isFault(t testing.TB, err error) *api.Fault {
	t.Helper()
	bad, is := err.(*api.Fault)
	var as *api.Fault
	if !is || bad == nil || !errors.As(err, &as) || as != bad || !errors.Is(err, bad.Code) || bad.Why != nil && !errors.Is(err, bad.Why) {
		t.Fatalf("%s: no Fault", told(err))
	}
	return bad
}

// sameError tells whether two errors are of one type and have the same; a path without places may be nil or not.
func sameError(a, b error) bool {
	f, isF := a.(*api.Fault)
	g, isG := b.(*api.Fault)
	if isF && isG && f != nil && g != nil {
		return f.Code == g.Code && f.At == g.At && slices.Equal(f.Path, g.Path) && sameError(f.Why, g.Why)
	}
	return reflect.DeepEqual(a, b)
}

// told is an error in few words.
func told(err error) string {
	if f, is := err.(*api.Fault); is && f != nil {
		return fmt.Sprintf("error %d at %d path %v why (%s)", f.Code, f.At, f.Path, told(f.Why))
	}
	return fmt.Sprintf("%T %v", err, err)
}

// brief is what a test tells of something: as much as fits a few lines.
func brief(x any) string {
	s := fmt.Sprintf("%+v", x)
	return strconv.Quote(s[:min(len(s), 400)])
}

func hex(s string) string { return fmt.Sprintf("%d bytes % x", len(s), s[:min(len(s), 100)]) }

func num(n int64) api.Num { return api.Num{Below: n < 0, Mag: string(big.NewInt(n).Bytes())} }

func numPart(n api.Num) api.Part { return api.Part{Kind: api.Int, Num: n} }

func intPart(n int64) api.Part { return numPart(num(n)) }

func rawPart(k api.Kind, s string) api.Part { return api.Part{Kind: k, Raw: s} }

func bytesPart(s string) api.Part { return rawPart(api.Bytes, s) }

func namePart(s string) api.Part { return rawPart(api.Name, s) }

func textPart(s string) api.Part { return rawPart(api.Text, s) }

func boolPart(yes bool) api.Part { return api.Part{Kind: api.Bool, Yes: yes} }

func tuplePart(items ...api.Part) api.Part { return api.Part{Kind: api.Tuple, Items: items} }

func null() api.Part { return api.Part{} }

// must is the value of a part that may be.
func must(t testing.TB, p api.Part) value.Value {
	t.Helper()
	v, e := value.Make(p)
	if e != api.OK {
		t.Fatalf("%s: error %d", brief(p), e)
	}
	return v
}

// is is a field called a of that kind, with as much as its kind must say.
func is(k api.Kind) api.Field {
	f := api.Field{Name: "a", Kind: k}
	switch k {
	case api.Bytes, api.Name:
		f.Most = 65536
	case api.Text:
		f.Collate.Strength = 3
	case api.Tuple:
		f.Fields = []api.Field{is(api.Int)}
	}
	return f
}

func named(name string, f api.Field) api.Field {
	f.Name = name
	return f
}

func down(f api.Field) api.Field {
	f.Down = true
	return f
}

func nulls(n api.Nulls, f api.Field) api.Field {
	f.Nulls = n
	return f
}

func most(n int, f api.Field) api.Field {
	f.Most = n
	return f
}

func bounded(low, high api.Num) api.Field {
	return api.Field{Name: "a", Kind: api.Int, Bounded: true, Low: low, High: high}
}

func collated(c api.Collate) api.Field { return api.Field{Name: "a", Kind: api.Text, Collate: c} }

// tupleOf is a field of tuples of these fields, which are called a, b and so on.
func tupleOf(fields ...api.Field) api.Field {
	l := slices.Clone(fields)
	for i := range l {
		l[i].Name = string(rune('a' + i))
	}
	return api.Field{Name: "a", Kind: api.Tuple, Fields: l}
}

// schemaOf is a schema of these fields, which are called a, b and so on.
func schemaOf(limit int, fields ...api.Field) api.Schema {
	return api.Schema{Limit: limit, Fields: tupleOf(fields...).Fields}
}

// count is how many fields there are, with those within.
func count(fields []api.Field) int {
	n := len(fields)
	for _, f := range fields {
		n += count(f.Fields)
	}
	return n
}

// someField is some field that may be, called so.
func someField(r *rand.Rand, name string, deep int) api.Field {
	f := api.Field{Name: name, Kind: api.Kind(1 + r.Intn(6)), Down: r.Intn(2) == 0, Nulls: api.Nulls(r.Intn(3))}
	if deep > 1 && r.Intn(3) > 0 {
		f.Kind = api.Tuple
	}
	switch f.Kind {
	case api.Int:
		if f.Bounded = r.Intn(2) == 0; f.Bounded {
			f.Low, f.High = num(-65536), num(65535)
		}
	case api.Bytes, api.Name:
		f.Most = 3 + r.Intn(7)
	case api.Text:
		all := collations()
		f.Collate = all[r.Intn(len(all))]
	case api.Tuple:
		for i := range 1 + r.Intn(4) {
			f.Fields = append(f.Fields, someField(r, "f"+strconv.Itoa(i), deep-1))
		}
	}
	return f
}

// anyPart is some value of a field, one of so few that two are often the same.
func anyPart(r *rand.Rand, f api.Field) api.Part {
	if f.Nulls != api.NeverNull && r.Intn(4) == 0 {
		return null()
	}
	switch f.Kind {
	case api.Bool:
		return boolPart(r.Intn(2) == 0)
	case api.Int:
		return intPart([]int64{-65536, -256, -255, -1, 0, 1, 255, 256, 65535}[r.Intn(9)])
	case api.Bytes:
		return bytesPart([]string{"", "\x00", "\x00\x00", "\x00\xff", "\x01", "\x7f", "\xff", "\xff\x00", "\xff\xff"}[r.Intn(9)])
	case api.ID:
		return rawPart(api.ID, strings.Repeat("\x00", 15)+[]string{"\x00", "\x7f", "\x80", "\xff"}[r.Intn(4)])
	case api.Name:
		return namePart([]string{"", "\x00", "a", "a\x00", "ab", "b", "\u00e1", "a\u0301"}[r.Intn(8)])
	case api.Text:
		all := texts()
		return textPart(all[r.Intn(len(all))])
	}
	p := api.Part{Kind: api.Tuple}
	for _, g := range f.Fields {
		p.Items = append(p.Items, anyPart(r, g))
	}
	return p
}

// anySchema is some schema that may be, whose keys are as long as they want.
func anySchema(r *rand.Rand, deep int) api.Schema {
	for {
		s := api.Schema{Limit: 65536}
		for i := range 1 + r.Intn(5) {
			s.Fields = append(s.Fields, someField(r, "f"+strconv.Itoa(i), deep))
		}
		if count(s.Fields) <= 64 {
			return s
		}
	}
}

// anyTuple is some tuple of a schema.
func anyTuple(r *rand.Rand, s api.Schema) api.Part {
	return anyPart(r, api.Field{Kind: api.Tuple, Fields: s.Fields})
}

// nearTuple is a tuple of a schema that is otherwise than another one in one place at most.
func nearTuple(r *rand.Rand, s api.Schema, p api.Part) api.Part {
	p.Items = slices.Clone(p.Items)
	i := r.Intn(len(p.Items))
	p.Items[i] = near(r, s.Fields[i], p.Items[i])
	return p
}

// near is a value of a field that is otherwise than another one in one place at most.
func near(r *rand.Rand, f api.Field, p api.Part) api.Part {
	if p.Kind != api.Tuple || r.Intn(6) == 0 {
		return anyPart(r, f)
	}
	p.Items = slices.Clone(p.Items)
	i := r.Intn(len(p.Items))
	p.Items[i] = near(r, f.Fields[i], p.Items[i])
	return p
}

// texts are spelt so that each level of the tables above tells two of them apart that those ahead of it do not.
func texts() []string {
	return []string{
		"", "a", "A", "b", "c", "d", "aa", "ab", "aA", "Aa", "dc", "a b", "a-b", "a~b", " ", "-", "~", " ab",
		"\u00e1", "a\u0301", "a\u0302", "\u00e1a", "a\u00e1", "aa\u0301", "A\u0301", "ab\u0301",
		"a\u0323", "\u0323", "a\u0323\u0301", "\u0323a", " \u0301", "\u4e00", "\u20ac", "\U0001f600", "\x00", "a\x00", "\x00\x00b",
	}
}

// samples are values of each kind, for is of it: the edges among them.
func samples() map[api.Kind][]api.Part {
	m := map[api.Kind][]api.Part{
		api.Bool:  {boolPart(false), boolPart(true)},
		api.ID:    {rawPart(api.ID, strings.Repeat("\x00", 16)), rawPart(api.ID, "0123456789abcdef"), rawPart(api.ID, "\x00\x01\x00\xff\xff\xff\xff\xff\xff\xff\xff\xff\xff\xff\x00\x01"), rawPart(api.ID, strings.Repeat("\xff", 16))},
		api.Tuple: {tuplePart(intPart(-9)), tuplePart(intPart(0)), tuplePart(intPart(256))},
	}
	for _, s := range []string{"", "\x00", "\x00\x00", "\x00\x01", "\x00\xff", "\x01", "a", "a\x00", "a\x00b", "\xff", "\xff\x00", "\xff\xff", "\xfe", "\x7f\x80"} {
		m[api.Bytes] = append(m[api.Bytes], bytesPart(s))
	}
	for _, s := range []string{"", "\x00", "\x00\x01", "a", "a\x00", "a\x00b", "\u007f", "\u0080", "\u00e1", "a\u0301", "\u07ff", "\u0800", "\uffff", "\U00010000", "\U0010ffff"} {
		m[api.Name] = append(m[api.Name], namePart(s))
	}
	for _, s := range texts() {
		m[api.Text] = append(m[api.Text], textPart(s))
	}
	m[api.Int] = []api.Part{intPart(0)}
	for _, s := range magnitudes() {
		m[api.Int] = append(m[api.Int], numPart(api.Num{Mag: s}), numPart(api.Num{Below: true, Mag: s}))
	}
	return m
}

// magnitudes are of every size that counts, up to 255 bytes.
func magnitudes() []string {
	l := []string{"\x01", "\x02", "\x7f", "\x80", "\xfe", "\xff", "\x01\x00", "\x01\x01", "\x01\xff", "\x02\x00", "\xff\x00", "\xff\xff", "\x01\x00\x00",
		strings.Repeat("\xff", 8), "\x01" + strings.Repeat("\x00", 8)}
	for _, size := range []int{125, 126, 127, 128, 129, 254, 255} {
		l = append(l, "\x01"+strings.Repeat("\x00", size-1), "\x7f"+strings.Repeat("\xff", size-1), "\x80"+strings.Repeat("\x00", size-2)+"\x01", strings.Repeat("\xff", size))
	}
	return l
}
