package field_test

import (
	"bytes"
	"errors"
	"fmt"
	"math/big"
	"math/rand"
	"reflect"
	"slices"
	"strconv"
	"strings"
	"testing"
	"unicode/utf8"

	"dovetail/api"
	"dovetail/field"
	"dovetail/value"
	"dovetail/weigh"
)

// What the tests hold the package against: the words of the chapter and of DOC.md's "The bytes of a key", on parts and lists of bytes, read by the library's means.

// Tables with an element of each sort: texts are told apart by one level only, or by none though their bytes differ.
const (
	oddMarks   = "0301;230;\n0302;230;\n0323;220;\n00E1;0;0061 0301"
	oddEntries = "0061;[.1000.0020.0002]\n" +
		"0041;[.1000.0020.0008]\n" + // by the third level
		"0062;[.1001.0020.0002]\n" +
		"0063;[.00FF.0020.0002]\n" + // weights with bytes 00 in them, that end no level
		"0064;[.FA00.0100.001F]\n" +
		"0301;[.0000.0024.0002]\n" + // by the second level
		"0302;[.0000.0025.0002]\n" +
		"0323;[.0000.0000.0000]\n" + // by none
		"0020;[*0209.0020.0002]\n" + // by the fourth level, if it is shifted
		"002D;[*020A.0020.0002]\n" +
		"007E;[*020B.0020.0002]" // whose byte stands behind those of letters
)

func load(t testing.TB, marks, entries string) *weigh.Tables {
	t.Helper()
	x, e, which, line := weigh.Load(marks, entries)
	if e != api.OK {
		t.Fatalf("Load: %d, %d, %d", e, which, line)
	}
	return x
}

func odd(t testing.TB) *weigh.Tables { return load(t, oddMarks, oddEntries) }

func empty(t testing.TB) *weigh.Tables { return load(t, "", "") }

// modes are all collations that are right, with their mode bytes.
func modes() map[api.Collate]byte {
	return map[api.Collate]byte{
		{Strength: 1}: 0x21, {Strength: 2}: 0x22, {Strength: 3}: 0x23,
		{Strength: 1, Shifted: true}: 0x25, {Strength: 2, Shifted: true}: 0x26, {Strength: 3, Shifted: true}: 0x27, {Strength: 4, Shifted: true}: 0x28,
		{Strength: 1, Back: true}: 0x29, {Strength: 2, Back: true}: 0x2a, {Strength: 3, Back: true}: 0x2b,
		{Strength: 1, Shifted: true, Back: true}: 0x2d, {Strength: 2, Shifted: true, Back: true}: 0x2e, {Strength: 3, Shifted: true, Back: true}: 0x2f, {Strength: 4, Shifted: true, Back: true}: 0x30,
	}
}

// collations are the same, always in one order.
func collations() []api.Collate {
	var l []api.Collate
	for c := range modes() {
		l = append(l, c)
	}
	slices.SortFunc(l, func(a, b api.Collate) int { return int(modes()[a]) - int(modes()[b]) })
	return l
}

// plainTag is the tag of what is not null.
func plainTag(f api.Field) byte {
	up := map[api.Kind]byte{api.Bool: 0x11, api.Int: 0x12, api.Bytes: 0x13, api.ID: 0x14, api.Name: 0x15, api.Text: 0x16, api.Tuple: 0x17}
	if f.Down {
		return up[f.Kind] + 0x10
	}
	return up[f.Kind]
}

// turnedBy is bytes that are turned that often.
func turnedBy(b []byte, turns int) []byte {
	out := slices.Clone(b)
	for range turns {
		for i := range out {
			out[i] = 0xff - out[i]
		}
	}
	return out
}

// plainPut is the bytes of a value of a field that stands in so many tuples that fall.
func plainPut(x *weigh.Tables, f api.Field, p api.Part, turns int) []byte {
	if p.Kind == api.Null {
		return turnedBy([]byte{map[api.Nulls]byte{api.NullFirst: 0x02, api.NullLast: 0x7d}[f.Nulls]}, turns)
	}
	out := turnedBy([]byte{plainTag(f)}, turns)
	if f.Down {
		turns++
	}
	if f.Kind != api.Tuple {
		return append(out, turnedBy(plainPayload(x, f, p), turns)...)
	}
	for i, g := range f.Fields {
		out = append(out, plainPut(x, g, p.Items[i], turns)...)
	}
	return append(out, turnedBy([]byte{0x01}, turns)...)
}

// plainPayload is what stands behind the tag of what is no tuple, where nothing falls.
func plainPayload(x *weigh.Tables, f api.Field, p api.Part) []byte {
	switch f.Kind {
	case api.Bool:
		return []byte{map[bool]byte{false: 0, true: 1}[p.Yes]}
	case api.Int:
		return plainNumber(p.Num)
	case api.ID:
		return []byte(p.Raw)
	case api.Text:
		key, _ := x.Key(f.Collate, p.Raw)
		return slices.Concat([]byte{modes()[f.Collate]}, []byte(key), escaped(p.Raw))
	}
	return escaped(p.Raw)
}

func escaped(s string) []byte {
	return []byte(strings.ReplaceAll(s, "\x00", "\x00\xff") + "\x00\x01")
}

// plainNumber is a number's bytes.
func plainNumber(n api.Num) []byte {
	size := len(n.Mag)
	switch {
	case n.Below && size <= 0x7e:
		return append([]byte{byte(0x80 - size)}, turnedBy([]byte(n.Mag), 1)...)
	case n.Below:
		return append([]byte{0x01, byte(0xff - size)}, turnedBy([]byte(n.Mag), 1)...)
	case size <= 0x7e:
		return append([]byte{byte(0x80 + size)}, n.Mag...)
	}
	return append([]byte{0xff, byte(size)}, n.Mag...)
}

// plainTake is P14.2 behind R5: what stands in b from a place on, in so many tuples that fall, in the field of that path; and the place behind it.
func plainTake(x *weigh.Tables, f api.Field, b []byte, at, turns int, path []int) (api.Part, int, *api.Fault) {
	wrong := func(code api.Errno, at int, why error) (api.Part, int, *api.Fault) {
		return api.Part{}, 0, &api.Fault{Code: code, At: at, Path: path, Why: why}
	}
	if at == len(b) {
		return wrong(api.ErrFieldShort, at, nil)
	}
	switch first := turnedBy(b[at:at+1], turns)[0]; {
	case first == 0x02 && f.Nulls == api.NullFirst, first == 0x7d && f.Nulls == api.NullLast:
		return api.Part{}, at + 1, nil
	case first != plainTag(f):
		return wrong(api.ErrFieldTag, at, nil)
	}
	at++
	if f.Down {
		turns++
	}
	if f.Kind != api.Tuple {
		p, size, bad := plainRest(x, f, turnedBy(b[at:], turns))
		if bad != nil {
			return wrong(bad.Code, at+bad.At, bad.Why)
		}
		return p, at + size, nil
	}
	p := api.Part{Kind: api.Tuple}
	for i, g := range f.Fields {
		item, end, bad := plainTake(x, g, b, at, turns, append(slices.Clone(path), i))
		if bad != nil {
			return api.Part{}, 0, bad
		}
		p.Items, at = append(p.Items, item), end
	}
	switch {
	case at == len(b):
		return wrong(api.ErrFieldShort, at, nil)
	case turnedBy(b[at:at+1], turns)[0] != 0x01:
		return wrong(api.ErrFieldShape, at, nil)
	}
	return p, at + 1, nil
}

// plainRest is the payload of what is no tuple, from the front of b on, which is turned already: the part, how many bytes it has; and what is wrong, with the place in b.
func plainRest(x *weigh.Tables, f api.Field, b []byte) (api.Part, int, *api.Fault) {
	p := api.Part{Kind: f.Kind}
	switch f.Kind {
	case api.Bool:
		switch {
		case len(b) == 0:
			return p, 0, &api.Fault{Code: api.ErrFieldShort}
		case b[0] > 1:
			return p, 0, &api.Fault{Code: api.ErrFieldShape}
		}
		p.Yes = b[0] == 1
		return p, 1, nil
	case api.Int:
		n, size, bad := plainTakeNumber(f, b)
		p.Num = n
		return p, size, bad
	case api.ID:
		if len(b) < 16 {
			return p, 0, &api.Fault{Code: api.ErrFieldShort, At: len(b)}
		}
		p.Raw = string(b[:16])
		return p, 16, nil
	case api.Text:
		s, size, bad := plainTakeText(x, f, b)
		p.Raw = s
		return p, size, bad
	}
	s, size, bad := plainUnescape(b)
	switch {
	case bad != nil:
		return p, 0, bad
	case len(s) > f.Most:
		return p, 0, &api.Fault{Code: api.ErrFitLong}
	case f.Kind == api.Name && !utf8.ValidString(s):
		return p, 0, &api.Fault{Code: api.ErrFitUtf, Why: api.ErrUtfForm}
	}
	p.Raw = s
	return p, size, nil
}

// plainTakeNumber is the same of a number alone.
func plainTakeNumber(f api.Field, b []byte) (api.Num, int, *api.Fault) {
	short := &api.Fault{Code: api.ErrFieldShort, At: len(b)}
	if len(b) == 0 || len(b) == 1 && (b[0] == 0xff || b[0] == 0x01) {
		return api.Num{}, 0, short
	}
	size, head := 1, 1
	switch first := int(b[0]); {
	case first == 0xff:
		size, head = 2+int(b[1]), 2
	case first == 0x01:
		size, head = 2+0xff-int(b[1]), 2
	case first >= 0x81:
		size = first - 0x7f
	case first >= 0x02 && first <= 0x7f:
		size = 0x81 - first
	}
	if len(b) < size {
		return api.Num{}, 0, short
	}
	n := api.Num{Mag: string(b[head:size])}
	if b[0] < 0x80 {
		n = api.Num{Below: true, Mag: string(turnedBy(b[head:size], 1))}
	}
	x := plainBig(n)
	switch {
	case x.Sign() == 0 && n.Below, string(x.Bytes()) != n.Mag, !bytes.Equal(plainNumber(n), b[:size]):
		return api.Num{}, 0, &api.Fault{Code: api.ErrFieldShape, Why: api.ErrNatForm}
	case f.Bounded && (x.Cmp(plainBig(f.Low)) < 0 || x.Cmp(plainBig(f.High)) > 0):
		return api.Num{}, 0, &api.Fault{Code: api.ErrFitRange}
	}
	return n, size, nil
}

func plainBig(n api.Num) *big.Int {
	x := new(big.Int).SetBytes([]byte(n.Mag))
	if n.Below {
		x.Neg(x)
	}
	return x
}

// plainUnescape is the same of an escaped text.
func plainUnescape(b []byte) (string, int, *api.Fault) {
	var raw []byte
	for i := 0; i < len(b); i++ {
		if b[i] != 0x00 {
			raw = append(raw, b[i])
			continue
		}
		if i+1 == len(b) {
			break
		}
		switch b[i+1] {
		case 0x01:
			return string(raw), i + 2, nil
		case 0xff:
			raw = append(raw, 0x00)
			i++
		default:
			return "", 0, &api.Fault{Code: api.ErrFieldEscape, At: i, Why: api.ErrOrdForm}
		}
	}
	return "", 0, &api.Fault{Code: api.ErrFieldShort, At: len(b)}
}

// plainTakeText is the same of a text.
func plainTakeText(x *weigh.Tables, f api.Field, b []byte) (string, int, *api.Fault) {
	switch {
	case len(b) == 0:
		return "", 0, &api.Fault{Code: api.ErrFieldShort}
	case b[0] != modes()[f.Collate]:
		return "", 0, &api.Fault{Code: api.ErrFieldShape}
	}
	at := 1
	for left := f.Collate.Strength; left > 0; at += 2 {
		if len(b) < at+2 {
			return "", 0, &api.Fault{Code: api.ErrFieldShort, At: len(b)}
		}
		if b[at] == 0 && b[at+1] == 0 {
			left--
		}
	}
	s, size, bad := plainUnescape(b[at:])
	switch {
	case bad != nil:
		bad.At += at
		return "", 0, bad
	case len(s) > 65536:
		return "", 0, &api.Fault{Code: api.ErrFitLong, At: at}
	case !utf8.ValidString(s):
		return "", 0, &api.Fault{Code: api.ErrFitUtf, At: at, Why: api.ErrUtfForm}
	}
	if key, _ := x.Key(f.Collate, s); key != string(b[1:at]) {
		return "", 0, &api.Fault{Code: api.ErrFieldWeight, At: 1}
	}
	return s, at + size, nil
}

// wantPut: Put of a value is that; and so it is by the words.
func wantPut(t testing.TB, x *weigh.Tables, f api.Field, p api.Part, want string) {
	t.Helper()
	s, err := field.Put(x, f, must(t, p))
	if s != want || err != nil {
		t.Fatalf("%s; %s: %s, %s; not %s", brief(f), brief(p), hex(s), told(err), hex(want))
	}
	if plain := string(plainPut(x, f, p, 0)); plain != want {
		t.Fatalf("%s; %s: the words say %s, not %s", brief(f), brief(p), hex(plain), hex(want))
	}
}

// putOf is what Put tells of a value, held against the words.
func putOf(t testing.TB, x *weigh.Tables, f api.Field, p api.Part) string {
	t.Helper()
	s := string(plainPut(x, f, p, 0))
	wantPut(t, x, f, p, s)
	return s
}

// refusedPut: Put of a value is refused; and what that is.
func refusedPut(t testing.TB, x *weigh.Tables, f api.Field, p api.Part) *api.Fault {
	t.Helper()
	s, err := field.Put(x, f, must(t, p))
	if s != "" {
		t.Fatalf("%s; %s: %s beside %s", brief(f), brief(p), hex(s), told(err))
	}
	return isFault(t, err)
}

// wantTake: Take of bytes is that value, and so many bytes; and so it is by the words; and Put tells of it what was read.
func wantTake(t testing.TB, x *weigh.Tables, f api.Field, b string, want api.Part, size int) {
	t.Helper()
	v, n, err := field.Take(x, f, b)
	if err != nil || n != size || !reflect.DeepEqual(value.Tell(v), want) || (v == nil) != (want.Kind == api.Null) {
		t.Fatalf("%s; %s: %s, %d, %s; not %s, %d", brief(f), hex(b), brief(value.Tell(v)), n, told(err), brief(want), size)
	}
	if p, end, bad := plainTake(x, f, []byte(b), 0, 0, nil); bad != nil || end != size || !reflect.DeepEqual(p, want) {
		t.Fatalf("%s; %s: the words say %s, %d, %s; not %s, %d", brief(f), hex(b), brief(p), end, told(bad), brief(want), size)
	}
	if s, err := field.Put(x, f, v); s != b[:size] || err != nil {
		t.Fatalf("%s; %s: put again %s, %s", brief(f), hex(b), hex(s), told(err))
	}
}

// wantBad: Take of bytes answers just this error, and nothing beside it; and so it is by the words.
func wantBad(t testing.TB, x *weigh.Tables, f api.Field, b string, code api.Errno, at int, why error, path ...int) {
	t.Helper()
	v, n, err := field.Take(x, f, b)
	want := &api.Fault{Code: code, At: at, Path: path, Why: why}
	if v != nil || n != 0 || !sameError(err, want) || at > len(b) {
		t.Fatalf("%s; %s: %s, %d, %s; not %s", brief(f), hex(b), brief(value.Tell(v)), n, told(err), told(want))
	}
	if _, _, bad := plainTake(x, f, []byte(b), 0, 0, nil); bad == nil || !sameError(bad, want) {
		t.Fatalf("%s; %s: the words say %s, not %s", brief(f), hex(b), told(bad), told(want))
	}
	isFault(t, err)
}

// checkTake holds Take of bytes against the words; what they say.
func checkTake(t testing.TB, x *weigh.Tables, f api.Field, b string) *api.Fault {
	t.Helper()
	p, end, bad := plainTake(x, f, []byte(b), 0, 0, nil)
	if bad != nil {
		wantBad(t, x, f, b, bad.Code, bad.At, bad.Why, bad.Path...)
		return bad
	}
	wantTake(t, x, f, b, p, end)
	return nil
}

// refusedTake: Take is refused ahead of all bytes; and what that is.
func refusedTake(t testing.TB, x *weigh.Tables, f api.Field, b string) *api.Fault {
	t.Helper()
	v, n, err := field.Take(x, f, b)
	if v != nil || n != 0 {
		t.Fatalf("%s; %s: %s, %d beside %s", brief(f), hex(b), brief(value.Tell(v)), n, told(err))
	}
	return isFault(t, err)
}

// isFault is an error that errors.As and errors.Is find as DOC.md has it.
func isFault(t testing.TB, err error) *api.Fault {
	t.Helper()
	bad, is := err.(*api.Fault)
	var as *api.Fault
	if !is || bad == nil || !errors.As(err, &as) || as != bad || !errors.Is(err, bad.Code) || bad.Why != nil && !errors.Is(err, bad.Why) {
		t.Fatalf("%s: no Fault", told(err))
	}
	return bad
}

// sameError tells whether two errors are of one type and have the same; a path without places may be nil or not.
func sameError(a, b error) bool {
	f, isF := a.(*api.Fault)
	g, isG := b.(*api.Fault)
	if isF && isG && f != nil && g != nil {
		return f.Code == g.Code && f.At == g.At && slices.Equal(f.Path, g.Path) && sameError(f.Why, g.Why)
	}
	return reflect.DeepEqual(a, b)
}

// told is an error in few words.
func told(err error) string {
	if f, is := err.(*api.Fault); is && f != nil {
		return fmt.Sprintf("error %d at %d path %v why (%s)", f.Code, f.At, f.Path, told(f.Why))
	}
	return fmt.Sprintf("%T %v", err, err)
}

// brief is what a test tells of something: as much as fits a few lines.
func brief(x any) string {
	s := fmt.Sprintf("%+v", x)
	return strconv.Quote(s[:min(len(s), 400)])
}

func hex(s string) string { return fmt.Sprintf("%d bytes % x", len(s), s[:min(len(s), 100)]) }

func num(n int64) api.Num { return api.Num{Below: n < 0, Mag: string(big.NewInt(n).Bytes())} }

func numPart(n api.Num) api.Part { return api.Part{Kind: api.Int, Num: n} }

func intPart(n int64) api.Part { return numPart(num(n)) }

func rawPart(k api.Kind, s string) api.Part { return api.Part{Kind: k, Raw: s} }

func bytesPart(s string) api.Part { return rawPart(api.Bytes, s) }

func namePart(s string) api.Part { return rawPart(api.Name, s) }

func textPart(s string) api.Part { return rawPart(api.Text, s) }

func boolPart(yes bool) api.Part { return api.Part{Kind: api.Bool, Yes: yes} }

func tuplePart(items ...api.Part) api.Part { return api.Part{Kind: api.Tuple, Items: items} }

func null() api.Part { return api.Part{} }

// must is the value of a part that may be.
func must(t testing.TB, p api.Part) value.Value {
	t.Helper()
	v, e := value.Make(p)
	if e != api.OK {
		t.Fatalf("%s: error %d", brief(p), e)
	}
	return v
}

// is is a field called a of that kind, with as much as its kind must say.
func is(k api.Kind) api.Field {
	f := api.Field{Name: "a", Kind: k}
	switch k {
	case api.Bytes, api.Name:
		f.Most = 65536
	case api.Text:
		f.Collate.Strength = 3
	case api.Tuple:
		f.Fields = []api.Field{is(api.Int)}
	}
	return f
}

func named(name string, f api.Field) api.Field {
	f.Name = name
	return f
}

func down(f api.Field) api.Field {
	f.Down = true
	return f
}

func nulls(n api.Nulls, f api.Field) api.Field {
	f.Nulls = n
	return f
}

func most(n int, f api.Field) api.Field {
	f.Most = n
	return f
}

func bounded(low, high api.Num) api.Field {
	return api.Field{Name: "a", Kind: api.Int, Bounded: true, Low: low, High: high}
}

func collated(c api.Collate) api.Field { return api.Field{Name: "a", Kind: api.Text, Collate: c} }

// tupleOf is a field of tuples of these fields, which are called a, b and so on.
func tupleOf(fields ...api.Field) api.Field {
	l := slices.Clone(fields)
	for i := range l {
		l[i].Name = string(rune('a' + i))
	}
	return api.Field{Name: "a", Kind: api.Tuple, Fields: l}
}

// placed is how a field stands within others: they, and how often what stands in it is turned there.
type placed struct {
	f     func(api.Field) api.Field
	p     func(api.Part) api.Part
	ahead string // what stands ahead of the field's own bytes
	tail  string // and behind them
	turns int    // how often its own bytes are turned
	path  []int
}

// places are a field alone, and within tuples that rise, fall, and fall within others that fall.
func places() []placed {
	one := func(p api.Part) api.Part { return tuplePart(p) }
	two := func(p api.Part) api.Part { return tuplePart(boolPart(true), tuplePart(p)) }
	return []placed{
		{f: func(f api.Field) api.Field { return f }, p: func(p api.Part) api.Part { return p }},
		{f: func(f api.Field) api.Field { return tupleOf(f) }, p: one, ahead: "\x17", tail: "\x01", path: []int{0}},
		{f: func(f api.Field) api.Field { return down(tupleOf(f)) }, p: one, ahead: "\x27", tail: "\xfe", turns: 1, path: []int{0}},
		{f: func(f api.Field) api.Field { return down(tupleOf(is(api.Bool), tupleOf(f))) }, p: two, ahead: "\x27\xee\xfe\xe8", tail: "\xfe\xfe", turns: 1, path: []int{1, 0}},
		{f: func(f api.Field) api.Field { return tupleOf(down(is(api.Bool)), down(tupleOf(f))) }, p: two, ahead: "\x17\x21\xfe\x27", tail: "\xfe\x01", turns: 1, path: []int{1, 0}},
		{f: func(f api.Field) api.Field { return down(tupleOf(down(is(api.Bool)), down(tupleOf(f)))) }, p: two, ahead: "\x27\xde\x01\xd8", tail: "\x01\xfe", turns: 2, path: []int{1, 0}},
	}
}

// count is how many fields there are, with those within.
func count(fields []api.Field) int {
	n := len(fields)
	for _, f := range fields {
		n += count(f.Fields)
	}
	return n
}

// anyField is some field that may be, called so.
func anyField(r *rand.Rand, name string, deep int) api.Field {
	for {
		if f := someField(r, name, deep); count([]api.Field{f}) <= 64 {
			return f
		}
	}
}

func someField(r *rand.Rand, name string, deep int) api.Field {
	f := api.Field{Name: name, Kind: api.Kind(1 + r.Intn(6)), Down: r.Intn(2) == 0, Nulls: api.Nulls(r.Intn(3))}
	if deep > 1 && r.Intn(3) > 0 {
		f.Kind = api.Tuple
	}
	switch f.Kind {
	case api.Int:
		if f.Bounded = r.Intn(2) == 0; f.Bounded {
			f.Low, f.High = num(-65536), num(65535)
		}
	case api.Bytes, api.Name:
		f.Most = 3 + r.Intn(7)
	case api.Text:
		all := collations()
		f.Collate = all[r.Intn(len(all))]
	case api.Tuple:
		for i := range 1 + r.Intn(4) {
			f.Fields = append(f.Fields, someField(r, "f"+strconv.Itoa(i), deep-1))
		}
	}
	return f
}

// anyPart is some value of a field, one of so few that two are often the same.
func anyPart(r *rand.Rand, f api.Field) api.Part {
	if f.Nulls != api.NeverNull && r.Intn(4) == 0 {
		return null()
	}
	switch f.Kind {
	case api.Bool:
		return boolPart(r.Intn(2) == 0)
	case api.Int:
		return intPart([]int64{-65536, -256, -255, -1, 0, 1, 255, 256, 65535}[r.Intn(9)])
	case api.Bytes:
		return bytesPart([]string{"", "\x00", "\x00\x00", "\x00\xff", "\x01", "\x7f", "\xff", "\xff\x00", "\xff\xff"}[r.Intn(9)])
	case api.ID:
		return rawPart(api.ID, strings.Repeat("\x00", 15)+[]string{"\x00", "\x7f", "\x80", "\xff"}[r.Intn(4)])
	case api.Name:
		return namePart([]string{"", "\x00", "a", "a\x00", "ab", "b", "\u00e1", "a\u0301"}[r.Intn(8)])
	case api.Text:
		all := texts()
		return textPart(all[r.Intn(len(all))])
	}
	p := api.Part{Kind: api.Tuple}
	for _, g := range f.Fields {
		p.Items = append(p.Items, anyPart(r, g))
	}
	return p
}

// near is a value of a field that is otherwise than another one in one place at most.
func near(r *rand.Rand, f api.Field, p api.Part) api.Part {
	if p.Kind != api.Tuple || r.Intn(6) == 0 {
		return anyPart(r, f)
	}
	p.Items = slices.Clone(p.Items)
	i := r.Intn(len(p.Items))
	p.Items[i] = near(r, f.Fields[i], p.Items[i])
	return p
}

// texts are spelt so that each level of the tables above tells two of them apart that those ahead of it do not.
func texts() []string {
	return []string{
		"", "a", "A", "b", "c", "d", "aa", "ab", "aA", "Aa", "dc", "a b", "a-b", "a~b", " ", "-", "~", " ab",
		"\u00e1", "a\u0301", "a\u0302", "\u00e1a", "a\u00e1", "aa\u0301", "A\u0301", "ab\u0301",
		"a\u0323", "\u0323", "a\u0323\u0301", "\u0323a", " \u0301", "\u4e00", "\u20ac", "\U0001f600", "\x00", "a\x00", "\x00\x00b",
	}
}

// samples are values of each kind, for is of it: the edges among them.
func samples() map[api.Kind][]api.Part {
	m := map[api.Kind][]api.Part{
		api.Bool:  {boolPart(false), boolPart(true)},
		api.ID:    {rawPart(api.ID, strings.Repeat("\x00", 16)), rawPart(api.ID, "0123456789abcdef"), rawPart(api.ID, "\x00\x01\x00\xff\xff\xff\xff\xff\xff\xff\xff\xff\xff\xff\x00\x01"), rawPart(api.ID, strings.Repeat("\xff", 16))},
		api.Tuple: {tuplePart(intPart(-9)), tuplePart(intPart(0)), tuplePart(intPart(256))},
	}
	for _, s := range []string{"", "\x00", "\x00\x00", "\x00\x01", "\x00\xff", "\x01", "a", "a\x00", "a\x00b", "\xff", "\xff\x00", "\xff\xff", "\xfe", "\x7f\x80"} {
		m[api.Bytes] = append(m[api.Bytes], bytesPart(s))
	}
	for _, s := range []string{"", "\x00", "\x00\x01", "a", "a\x00", "a\x00b", "\u007f", "\u0080", "\u00e1", "a\u0301", "\u07ff", "\u0800", "\uffff", "\U00010000", "\U0010ffff"} {
		m[api.Name] = append(m[api.Name], namePart(s))
	}
	for _, s := range texts() {
		m[api.Text] = append(m[api.Text], textPart(s))
	}
	m[api.Int] = []api.Part{intPart(0)}
	for _, s := range magnitudes() {
		m[api.Int] = append(m[api.Int], numPart(api.Num{Mag: s}), numPart(api.Num{Below: true, Mag: s}))
	}
	return m
}

// magnitudes are of every size that counts, up to 255 bytes.
func magnitudes() []string {
	l := []string{"\x01", "\x02", "\x7f", "\x80", "\xfe", "\xff", "\x01\x00", "\x01\x01", "\x01\xff", "\x02\x00", "\xff\x00", "\xff\xff", "\x01\x00\x00",
		strings.Repeat("\xff", 8), "\x01" + strings.Repeat("\x00", 8)}
	for _, size := range []int{125, 126, 127, 128, 129, 254, 255} {
		l = append(l, "\x01"+strings.Repeat("\x00", size-1), "\x7f"+strings.Repeat("\xff", size-1), "\x80"+strings.Repeat("\x00", size-2)+"\x01", strings.Repeat("\xff", size))
	}
	return l
}
