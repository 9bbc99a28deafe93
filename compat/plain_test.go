package compat_test

import (
	"errors"
	"fmt"
	"math/big"
	"math/rand"
	"reflect"
	"slices"
	"strconv"
	"strings"
	"testing"

	"dovetail/api"
	"dovetail/compat"
	"dovetail/pack"
	"dovetail/schema"
	"dovetail/value"
	"dovetail/weigh"
)

// What the tests hold the package against: the words of chapter 17, by parts and the library's big numbers; and package pack's keys with several tables.

// plainDiff is a difference by its number in the chapter's list, with the two fields.
type plainDiff struct {
	number int
	path   []int
	f, g   api.Field
}

// plainDiffs are all differences of two schemas.
func plainDiffs(s, to api.Schema) []plainDiff {
	if len(s.Fields) != len(to.Fields) {
		return []plainDiff{{number: 1}}
	}
	return plainWithin(nil, s.Fields, to.Fields)
}

func plainWithin(path []int, s, to []api.Field) []plainDiff {
	var l []plainDiff
	for i := range s {
		f, g := s[i], to[i]
		here := slices.Concat(path, []int{i})
		add := func(number int) { l = append(l, plainDiff{number, here, f, g}) }
		second := f.Kind != g.Kind || f.Down != g.Down || f.Collate != g.Collate
		first := !second && f.Kind == api.Tuple && len(f.Fields) != len(g.Fields)
		if first {
			add(1)
		}
		if second {
			add(2)
		}
		if f.Nulls != api.NeverNull && g.Nulls != f.Nulls {
			add(3)
		}
		if f.Kind == api.Int && g.Kind == api.Int && plainApart(f, g) >= 0 {
			add(4)
		}
		if (f.Kind == api.Bytes || f.Kind == api.Name) && g.Kind == f.Kind && g.Most < f.Most {
			add(5)
		}
		if f.Kind == api.Tuple && g.Kind == api.Tuple && !first && !second {
			l = append(l, plainWithin(here, f.Fields, g.Fields)...)
		}
	}
	return l
}

// farthest is the greatest number that there is.
func farthest() *big.Int {
	n := new(big.Int).Lsh(big.NewInt(1), 8*255)
	return n.Sub(n, big.NewInt(1))
}

func bigOf(n api.Num) *big.Int {
	b := new(big.Int).SetBytes([]byte(n.Mag))
	if n.Below {
		b.Neg(b)
	}
	return b
}

func numOf(b *big.Int) api.Num { return api.Num{Below: b.Sign() < 0, Mag: string(b.Bytes())} }

// plainRange is from where to where a field's numbers go.
func plainRange(f api.Field) (*big.Int, *big.Int) {
	if f.Bounded {
		return bigOf(f.Low), bigOf(f.High)
	}
	return new(big.Int).Neg(farthest()), farthest()
}

// plainSized are all numbers whose magnitude has so many bytes: from, to; those below 0, if below.
func plainSized(n int, below bool) (*big.Int, *big.Int) {
	if n == 0 {
		return new(big.Int), new(big.Int)
	}
	low := new(big.Int).Lsh(big.NewInt(1), uint(8*(n-1)))
	high := new(big.Int).Lsh(big.NewInt(1), uint(8*n))
	high.Sub(high, big.NewInt(1))
	if below {
		return new(big.Int).Neg(high), new(big.Int).Neg(low)
	}
	return low, high
}

// plainFewest is how many bytes of magnitude the shortest number has for which some holds of the numbers of one size that the field has; below 0, if there is none.
func plainFewest(f api.Field, some func(from, to *big.Int) bool) int {
	low, high := plainRange(f)
	for n := range 256 {
		for _, below := range []bool{false, true} {
			from, to := plainSized(n, below)
			if from.Cmp(low) < 0 {
				from = low
			}
			if to.Cmp(high) > 0 {
				to = high
			}
			if from.Cmp(to) <= 0 && some(from, to) {
				return n
			}
		}
	}
	return -1
}

// plainLeast is that of all numbers of a field.
func plainLeast(f api.Field) int {
	return plainFewest(f, func(from, to *big.Int) bool { return true })
}

// plainApart is that of those that the field f has, and g has not; below 0, if it has them all.
func plainApart(f, g api.Field) int {
	low, high := plainRange(g)
	if from, to := plainRange(f); low.Cmp(from) <= 0 && to.Cmp(high) <= 0 {
		return -1
	}
	return plainFewest(f, func(from, to *big.Int) bool { return from.Cmp(low) < 0 || to.Cmp(high) > 0 })
}

// plainSize is how many bytes a number has whose magnitude has so many.
func plainSize(n int) int {
	if n > 126 {
		return 2 + n
	}
	return 1 + n
}

// plainFilled is P17.2's bytes of a field that is not null.
func plainFilled(f api.Field) int {
	switch f.Kind {
	case api.Bool:
		return 2
	case api.Int:
		return 1 + plainSize(plainLeast(f))
	case api.ID:
		return 17
	case api.Text:
		return 4 + 2*f.Collate.Strength
	case api.Tuple:
		n := 2
		for _, g := range f.Fields {
			n += plainShort(g)
		}
		return n
	}
	return 3
}

// plainShort is P17.2's bytes of a field that a difference says nothing of.
func plainShort(f api.Field) int {
	if f.Nulls != api.NeverNull {
		return 1
	}
	return plainFilled(f)
}

// plainShown is those of the field of the difference itself.
func plainShown(d plainDiff) int {
	switch d.number {
	case 3:
		return 1
	case 4:
		return 1 + plainSize(plainApart(d.f, d.g))
	case 5:
		return 3 + d.g.Most + 1
	}
	return plainFilled(d.f)
}

// plainKeySize is how many bytes the shortest key has in which the difference shows.
func plainKeySize(fields []api.Field, path []int, d plainDiff) int {
	n := 0
	for i, f := range fields {
		switch {
		case len(path) == 0 || i != path[0]:
			n += plainShort(f)
		case len(path) == 1:
			n += plainShown(d)
		default:
			n += 2 + plainKeySize(f.Fields, path[1:], d)
		}
	}
	return n
}

// plainSizes are those of all differences, the least one first.
func plainSizes(s, to api.Schema) []int {
	var l []int
	for _, d := range plainDiffs(s, to) {
		l = append(l, plainKeySize(s.Fields, d.path, d))
	}
	slices.Sort(l)
	return l
}

// shows tells whether a difference shows in a tuple.
func (d plainDiff) shows(p api.Part) bool {
	if d.path == nil {
		return true
	}
	for _, i := range d.path {
		if p.Kind != api.Tuple { // a tuple that it stands in is null
			return false
		}
		p = p.Items[i]
	}
	switch d.number {
	case 3:
		return p.Kind == api.Null
	case 4:
		low, high := plainRange(d.g)
		return p.Kind == api.Int && (bigOf(p.Num).Cmp(low) < 0 || bigOf(p.Num).Cmp(high) > 0)
	case 5:
		return p.Kind != api.Null && len(p.Raw) > d.g.Most
	}
	return p.Kind != api.Null
}

// The three verdicts.
const (
	fits    = "fits"
	short   = "short"
	against = "witness"
)

// plainVerdict is P17.1 of two schemas that may be.
func plainVerdict(s, to api.Schema) string {
	if l := plainSizes(s, to); len(l) > 0 && l[0] <= s.Limit {
		return against
	}
	if to.Limit < s.Limit {
		return short
	}
	return fits
}

// verdict is which of the three it is: just one, with nothing of the others.
func verdict(t testing.TB, v api.Verdict) string {
	t.Helper()
	none := reflect.DeepEqual(v.Witness, api.Part{})
	switch {
	case v.Fits && !v.Short && none:
		return fits
	case v.Short && !v.Fits && none:
		return short
	case v.Fits || v.Short || v.Witness.Kind != api.Tuple:
		t.Fatalf("%s: no verdict", brief(v))
	}
	return against
}

// tables are several, so that texts have other sort keys by each.
func tables(t testing.TB) []*weigh.Tables {
	return []*weigh.Tables{empty(t), odd(t), load(t, "", "0061;[.0000.0000.0000]\n0062;[*0001.0001.0001]")}
}

// check holds the answer against the words, and a witness against both schemas; and tells which verdict it is.
func check(t testing.TB, s, to api.Schema) string {
	t.Helper()
	v, err := compat.Check(s, to)
	if err != nil {
		t.Fatalf("%s; %s: %s", brief(s), brief(to), told(err))
	}
	got, want := verdict(t, v), plainVerdict(s, to)
	if got != want {
		t.Fatalf("%s; %s: %s; the words say %s (%v)", brief(s), brief(to), got, want, plainSizes(s, to))
	}
	if got == against {
		checkWitness(t, s, to, v.Witness)
	}
	return got
}

// checkWitness: it is a tuple of s whose key comes about, and in which a difference shows; with several tables its key is none of the other one's.
func checkWitness(t testing.TB, s, to api.Schema, p api.Part) {
	t.Helper()
	w := must(t, p)
	if !slices.ContainsFunc(plainDiffs(s, to), func(d plainDiff) bool { return d.shows(p) }) {
		t.Fatalf("%s; %s: in %s no difference shows", brief(s), brief(to), brief(p))
	}
	for i, x := range tables(t) {
		key, err := pack.Encode(x, s, w)
		if err != nil || len(key) > s.Limit {
			t.Fatalf("%s; %s: %s has no key by tables %d: %s", brief(s), brief(to), brief(p), i, told(err))
		}
		to.Limit = api.MaxKey // it is not the limit that refuses it
		if v, bad := pack.Decode(x, to, key); bad == nil {
			t.Fatalf("%s; %s: %s has by both the key %s, of %s", brief(s), brief(to), brief(p), hex(key), brief(value.Tell(v)))
		}
	}
}

// wantVerdict: the answer is that one, by the words too.
func wantVerdict(t testing.TB, s, to api.Schema, want string) {
	t.Helper()
	if got := check(t, s, to); got != want {
		t.Fatalf("%s; %s: %s, not %s", brief(s), brief(to), got, want)
	}
}

// wantFrom: there is a witness just if the limit lets keys of so many bytes be, by the limits about that and by those far away; below that it is Fits or Short by the other one's limit.
func wantFrom(t testing.TB, s, to api.Schema, size int) {
	t.Helper()
	for _, limit := range []int{1, size - 2, size - 1, size, size + 1, api.MaxKey} {
		if limit < 1 || limit > api.MaxKey {
			continue
		}
		s.Limit = limit
		for _, other := range []int{1, limit - 1, limit, limit + 1, api.MaxKey} {
			if other < 1 || other > api.MaxKey {
				continue
			}
			to.Limit = other
			switch {
			case limit >= size:
				wantVerdict(t, s, to, against)
			case other < limit:
				wantVerdict(t, s, to, short)
			default:
				wantVerdict(t, s, to, fits)
			}
		}
	}
}

// wantNone: there is no difference, whatever the limits.
func wantNone(t testing.TB, s, to api.Schema) {
	t.Helper()
	if l := plainDiffs(s, to); len(l) != 0 {
		t.Fatalf("%s; %s: the words say %d differences", brief(s), brief(to), len(l))
	}
	wantFrom(t, s, to, api.MaxKey+1)
}

// wantBad: the answer is just this error, and nothing beside it.
func wantBad(t testing.TB, s, to api.Schema, want *api.Fault) {
	t.Helper()
	v, err := compat.Check(s, to)
	if !reflect.DeepEqual(v, api.Verdict{}) || !sameError(err, want) {
		t.Fatalf("%s; %s: %s, %s; not %s", brief(s), brief(to), brief(v), told(err), told(want))
	}
	isFault(t, err)
}

// Tables with an element of each sort: texts are told apart by one level only, or by none though their bytes differ.
const (
	oddMarks   = "0301;230;\n0302;230;\n0323;220;\n00E1;0;0061 0301"
	oddEntries = "0061;[.1000.0020.0002]\n" +
		"0041;[.1000.0020.0008]\n" + // by the third level
		"0062;[.1001.0020.0002]\n" +
		"0063;[.00FF.0020.0002]\n" + // weights with bytes 00 in them, that end no level
		"0064;[.FA00.0100.001F]\n" +
		"0301;[.0000.0024.0002]\n" + // by the second level
		"0302;[.0000.0025.0002]\n" +
		"0323;[.0000.0000.0000]\n" + // by none
		"0020;[*0209.0020.0002]\n" + // by the fourth level, if it is shifted
		"002D;[*020A.0020.0002]\n" +
		"007E;[*020B.0020.0002]" // whose byte stands behind those of letters
)

func load(t testing.TB, marks, entries string) *weigh.Tables {
	t.Helper()
	x, e, which, line := weigh.Load(marks, entries)
	if e != api.OK {
		t.Fatalf("Load: %d, %d, %d", e, which, line)
	}
	return x
}

func odd(t testing.TB) *weigh.Tables { return load(t, oddMarks, oddEntries) }

func empty(t testing.TB) *weigh.Tables { return load(t, "", "") }

// collations are all that are right.
func collations() []api.Collate {
	var l []api.Collate
	for n := 1; n <= 4; n++ {
		for _, shifted := range []bool{false, true} {
			for _, back := range []bool{false, true} {
				if n < 4 || shifted {
					l = append(l, api.Collate{Strength: n, Shifted: shifted, Back: back})
				}
			}
		}
	}
	return l
}

// isFault is an error that errors.As and errors.Is find as DOC.md has it.
func isFault(t testing.TB, err error) *api.Fault {
	t.Helper()
	bad, is := err.(*api.Fault)
	var as *api.Fault
	if !is || bad == nil || !errors.As(err, &as) || as != bad || !errors.Is(err, bad.Code) || bad.Why != nil && !errors.Is(err, bad.Why) {
		t.Fatalf("%s: no Fault", told(err))
	}
	return bad
}

// sameError tells whether two errors are of one type and have the same; a path without places may be nil or not.
func sameError(a, b error) bool {
	f, isF := a.(*api.Fault)
	g, isG := b.(*api.Fault)
	if isF && isG && f != nil && g != nil {
		return f.Code == g.Code && f.At == g.At && slices.Equal(f.Path, g.Path) && sameError(f.Why, g.Why)
	}
	return reflect.DeepEqual(a, b)
}

// told is an error in few words.
func told(err error) string {
	if f, is := err.(*api.Fault); is && f != nil {
		return fmt.Sprintf("error %d at %d path %v why (%s)", f.Code, f.At, f.Path, told(f.Why))
	}
	return fmt.Sprintf("%T %v", err, err)
}

// brief is what a test tells of something: as much as fits a few lines.
func brief(x any) string {
	s := fmt.Sprintf("%+v", x)
	return strconv.Quote(s[:min(len(s), 400)])
}

func hex(s string) string { return fmt.Sprintf("%d bytes % x", len(s), s[:min(len(s), 100)]) }

func num(n int64) api.Num { return api.Num{Below: n < 0, Mag: string(big.NewInt(n).Bytes())} }

func numPart(n api.Num) api.Part { return api.Part{Kind: api.Int, Num: n} }

func intPart(n int64) api.Part { return numPart(num(n)) }

func rawPart(k api.Kind, s string) api.Part { return api.Part{Kind: k, Raw: s} }

func bytesPart(s string) api.Part { return rawPart(api.Bytes, s) }

func namePart(s string) api.Part { return rawPart(api.Name, s) }

func textPart(s string) api.Part { return rawPart(api.Text, s) }

func boolPart(yes bool) api.Part { return api.Part{Kind: api.Bool, Yes: yes} }

func tuplePart(items ...api.Part) api.Part { return api.Part{Kind: api.Tuple, Items: items} }

func null() api.Part { return api.Part{} }

// must is the value of a part that may be.
func must(t testing.TB, p api.Part) value.Value {
	t.Helper()
	v, e := value.Make(p)
	if e != api.OK {
		t.Fatalf("%s: error %d", brief(p), e)
	}
	return v
}

// is is a field called a of that kind, with as much as its kind must say.
func is(k api.Kind) api.Field {
	f := api.Field{Name: "a", Kind: k}
	switch k {
	case api.Bytes, api.Name:
		f.Most = 65536
	case api.Text:
		f.Collate.Strength = 3
	case api.Tuple:
		f.Fields = []api.Field{is(api.Int)}
	}
	return f
}

func named(name string, f api.Field) api.Field {
	f.Name = name
	return f
}

func down(f api.Field) api.Field {
	f.Down = true
	return f
}

func nulls(n api.Nulls, f api.Field) api.Field {
	f.Nulls = n
	return f
}

func most(n int, f api.Field) api.Field {
	f.Most = n
	return f
}

func bounded(low, high api.Num) api.Field {
	return api.Field{Name: "a", Kind: api.Int, Bounded: true, Low: low, High: high}
}

func collated(c api.Collate) api.Field { return api.Field{Name: "a", Kind: api.Text, Collate: c} }

// tupleOf is a field of tuples of these fields, which are called a, b and so on.
func tupleOf(fields ...api.Field) api.Field {
	l := slices.Clone(fields)
	for i := range l {
		l[i].Name = string(rune('a' + i))
	}
	return api.Field{Name: "a", Kind: api.Tuple, Fields: l}
}

// schemaOf is a schema of these fields, which are called a, b and so on.
func schemaOf(limit int, fields ...api.Field) api.Schema {
	return api.Schema{Limit: limit, Fields: tupleOf(fields...).Fields}
}

// count is how many fields there are, with those within.
func count(fields []api.Field) int {
	n := len(fields)
	for _, f := range fields {
		n += count(f.Fields)
	}
	return n
}

// edges are numbers about which bounds are laid.
func edges() []api.Num {
	var l []api.Num
	for _, n := range []int64{-65537, -65536, -300, -257, -256, -255, -2, -1, 0, 1, 2, 255, 256, 257, 300, 65535, 65536} {
		l = append(l, num(n))
	}
	for _, m := range magnitudes() {
		if len(m) > 100 {
			l = append(l, api.Num{Mag: m}, api.Num{Below: true, Mag: m})
		}
	}
	return l
}

// someBounds are bounds, or none.
func someBounds(r *rand.Rand) api.Field {
	all := edges()
	low, high := all[r.Intn(len(all))], all[r.Intn(len(all))]
	if r.Intn(4) > 0 {
		low, high = all[r.Intn(17)], all[r.Intn(17)]
	}
	switch {
	case r.Intn(4) == 0:
		return is(api.Int)
	case bigOf(low).Cmp(bigOf(high)) > 0:
		return bounded(high, low)
	}
	return bounded(low, high)
}

// someField is some field that may be, called so.
func someField(r *rand.Rand, name string, deep int) api.Field {
	f := api.Field{Kind: api.Kind(1 + r.Intn(6))}
	if deep > 1 && r.Intn(3) > 0 {
		f.Kind = api.Tuple
	}
	switch f.Kind {
	case api.Int:
		f = someBounds(r)
	case api.Bytes, api.Name:
		f.Most = r.Intn(7)
	case api.Text:
		all := collations()
		f.Collate = all[r.Intn(len(all))]
	case api.Tuple:
		for i := range 1 + r.Intn(4) {
			f.Fields = append(f.Fields, someField(r, "f"+strconv.Itoa(i), deep-1))
		}
	}
	f.Name, f.Down, f.Nulls = name, r.Intn(2) == 0, api.Nulls(r.Intn(3))
	return f
}

// nearField is a field that is otherwise than another one in one thing, or within.
func nearField(r *rand.Rand, f api.Field, deep int) api.Field {
	other := someField(r, f.Name, deep)
	switch n := r.Intn(8); {
	case n == 0:
		return other
	case n == 1:
		f.Down = !f.Down
	case n == 2:
		f.Nulls = other.Nulls
	case n == 3:
		f.Name = "z" + f.Name[1:]
	case f.Kind == api.Tuple:
		f.Fields = nearFields(r, f.Fields, deep-1)
	case f.Kind == api.Int:
		g := someBounds(r)
		f.Bounded, f.Low, f.High = g.Bounded, g.Low, g.High
	case f.Kind == api.Bytes || f.Kind == api.Name:
		f.Most = r.Intn(7)
	case f.Kind == api.Text:
		all := collations()
		f.Collate = all[r.Intn(len(all))]
	}
	return f
}

// nearFields are fields that are otherwise than others in one thing, or so.
func nearFields(r *rand.Rand, fields []api.Field, deep int) []api.Field {
	l := slices.Clone(fields)
	switch n := r.Intn(16); {
	case n == 0:
		return append(l, someField(r, "more", deep))
	case n == 1 && len(l) > 1:
		return l[:len(l)-1]
	}
	for range 1 + r.Intn(2) {
		i := r.Intn(len(l))
		l[i] = nearField(r, l[i], deep)
	}
	return l
}

// nearSchema is a schema that is otherwise than another one in one thing, or in few.
func nearSchema(r *rand.Rand, s api.Schema, deep int) api.Schema {
	for {
		out := api.Schema{Limit: api.MaxKey, Fields: nearFields(r, s.Fields, deep)}
		if schema.Check(out) == nil {
			return out
		}
	}
}

// anyPart is some value of a field, one of few.
func anyPart(r *rand.Rand, f api.Field) api.Part {
	if f.Nulls != api.NeverNull && r.Intn(3) == 0 {
		return null()
	}
	switch f.Kind {
	case api.Bool:
		return boolPart(r.Intn(2) == 0)
	case api.Int:
		return numPart(anyNumber(r, f))
	case api.Bytes, api.Name:
		return rawPart(f.Kind, strings.Repeat([]string{"a", "\x00"}[r.Intn(2)], r.Intn(min(f.Most, 9)+1)))
	case api.ID:
		return rawPart(api.ID, strings.Repeat("\x00", 15)+[]string{"\x00", "\x7f", "\x80", "\xff"}[r.Intn(4)])
	case api.Text:
		all := texts()
		return textPart(all[r.Intn(len(all))])
	}
	p := api.Part{Kind: api.Tuple}
	for _, g := range f.Fields {
		p.Items = append(p.Items, anyPart(r, g))
	}
	return p
}

// anyNumber is an edge that lies within the bounds, or one of them.
func anyNumber(r *rand.Rand, f api.Field) api.Num {
	low, high := plainRange(f)
	all := edges()
	for range 4 {
		if n := all[r.Intn(len(all))]; low.Cmp(bigOf(n)) <= 0 && bigOf(n).Cmp(high) <= 0 {
			return n
		}
	}
	return numOf([]*big.Int{low, high}[r.Intn(2)])
}

// anySchema is some schema that may be, whose keys are as long as they want.
func anySchema(r *rand.Rand, deep int) api.Schema {
	for {
		s := api.Schema{Limit: 65536}
		for i := range 1 + r.Intn(5) {
			s.Fields = append(s.Fields, someField(r, "f"+strconv.Itoa(i), deep))
		}
		if count(s.Fields) <= 64 {
			return s
		}
	}
}

// anyTuple is some tuple of a schema.
func anyTuple(r *rand.Rand, s api.Schema) api.Part {
	return anyPart(r, api.Field{Kind: api.Tuple, Fields: s.Fields})
}

// texts are spelt so that each level of the tables above tells two of them apart that those ahead of it do not.
func texts() []string {
	return []string{
		"", "a", "A", "b", "c", "d", "aa", "ab", "aA", "Aa", "dc", "a b", "a-b", "a~b", " ", "-", "~", " ab",
		"\u00e1", "a\u0301", "a\u0302", "\u00e1a", "a\u00e1", "aa\u0301", "A\u0301", "ab\u0301",
		"a\u0323", "\u0323", "a\u0323\u0301", "\u0323a", " \u0301", "\u4e00", "\u20ac", "\U0001f600", "\x00", "a\x00", "\x00\x00b",
	}
}

// magnitudes are of every size that counts, up to 255 bytes.
func magnitudes() []string {
	l := []string{"\x01", "\x02", "\x7f", "\x80", "\xfe", "\xff", "\x01\x00", "\x01\x01", "\x01\xff", "\x02\x00", "\xff\x00", "\xff\xff", "\x01\x00\x00",
		strings.Repeat("\xff", 8), "\x01" + strings.Repeat("\x00", 8)}
	for _, size := range []int{125, 126, 127, 128, 129, 254, 255} {
		l = append(l, "\x01"+strings.Repeat("\x00", size-1), "\x7f"+strings.Repeat("\xff", size-1), "\x80"+strings.Repeat("\x00", size-2)+"\x01", strings.Repeat("\xff", size))
	}
	return l
}
