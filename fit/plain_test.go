package fit

import (
	"errors"
	"fmt"
	"math/big"
	"math/rand"
	"reflect"
	"slices"
	"strconv"
	"strings"
	"testing"
	"unicode/utf8"

	"dovetail/api"
	"dovetail/schema"
	"dovetail/value"
)

// What the tests hold the package against: the chapter's words, read by the library's means.

// placed is a field and what is to be a value of it, with their path.
type placed struct {
	path []int
	f    api.Field
	p    api.Part
}

// plainUnfit is P12.1 from its first point on, word for word, with a list of what is still to be asked where the package calls itself; nil: nothing is wrong.
func plainUnfit(f api.Field, p api.Part) *api.Fault {
	left := []placed{{nil, f, p}}
	for len(left) > 0 {
		one := left[0]
		left = left[1:]
		if bad := plainOne(one.f, one.p); bad != nil {
			bad.Path = one.path
			return bad
		}
		var within []placed
		for i, item := range one.p.Items {
			within = append(within, placed{append(slices.Clone(one.path), i), one.f.Fields[i], item})
		}
		left = append(within, left...)
	}
	return nil
}

// plainOne is the same of one value, whatever stands within it.
func plainOne(f api.Field, p api.Part) *api.Fault {
	switch {
	case p.Kind == api.Null && f.Nulls == api.NeverNull:
		return &api.Fault{Code: api.ErrFitNull}
	case p.Kind == api.Null:
		return nil
	case p.Kind != f.Kind:
		return &api.Fault{Code: api.ErrFitKind, Why: &api.Fault{Code: api.ErrKind}}
	case p.Kind == api.Int && f.Bounded && plainBig(p.Num).Cmp(plainBig(f.Low)) < 0:
		return &api.Fault{Code: api.ErrFitRange}
	case p.Kind == api.Int && f.Bounded && plainBig(p.Num).Cmp(plainBig(f.High)) > 0:
		return &api.Fault{Code: api.ErrFitRange}
	case p.Kind == api.Bytes && len(p.Raw) > f.Most, p.Kind == api.Name && len(p.Raw) > f.Most:
		return &api.Fault{Code: api.ErrFitLong}
	case p.Kind == api.Name && !utf8.ValidString(p.Raw), p.Kind == api.Text && !utf8.ValidString(p.Raw):
		return &api.Fault{Code: api.ErrFitUtf, At: plainPlace(p.Raw), Why: api.ErrUtfForm}
	case p.Kind == api.Tuple && len(p.Items) != len(f.Fields):
		return &api.Fault{Code: api.ErrFitCount}
	}
	return nil
}

// plainPlace is where a text stops being UTF-8.
func plainPlace(s string) int {
	for i, c := range s {
		if _, size := utf8.DecodeRuneInString(s[i:]); c == utf8.RuneError && size == 1 {
			return i
		}
	}
	return -1
}

func plainBig(n api.Num) *big.Int {
	x := new(big.Int).SetBytes([]byte(n.Mag))
	if n.Below {
		x.Neg(x)
	}
	return x
}

// plainArg is R5's ErrArg of a schema, or nil.
func plainArg(s api.Schema) *api.Fault {
	if err := schema.Check(s); err != nil {
		return &api.Fault{Code: api.ErrArg, Why: err}
	}
	return nil
}

// plainField is P12.1, plainCheck P12.2, whole.
func plainField(f api.Field, p api.Part) *api.Fault {
	if bad := plainArg(api.Schema{Limit: 65536, Fields: []api.Field{f}}); bad != nil {
		return bad
	}
	return plainUnfit(f, p)
}

func plainCheck(s api.Schema, p api.Part) *api.Fault {
	if bad := plainArg(s); bad != nil {
		return bad
	}
	return plainUnfit(api.Field{Kind: api.Tuple, Fields: s.Fields}, p)
}

// plainLeast is P12.3 of a field that may be.
func plainLeast(f api.Field) api.Part {
	switch f.Kind {
	case api.Bool:
		return api.Part{Kind: api.Bool, Yes: false}
	case api.Int:
		if f.Bounded {
			return numPart(f.Low)
		}
		return numPart(num(0))
	case api.ID:
		return rawPart(api.ID, string(make([]byte, 16)))
	case api.Tuple:
		p := api.Part{Kind: api.Tuple}
		for _, g := range f.Fields {
			p.Items = append(p.Items, plainLeast(g))
		}
		return p
	}
	return rawPart(f.Kind, "")
}

// isFault tells whether an error is just that Fault, with what it comes of; of nil whether there is none.
func isFault(err error, want *api.Fault) bool {
	if want == nil {
		return err == nil
	}
	f, is := err.(*api.Fault)
	if !is || f == nil || f.Code != want.Code || f.At != want.At || !slices.Equal(f.Path, want.Path) || !sameWhy(f.Why, want.Why) {
		return false
	}
	var as *api.Fault
	return errors.Is(err, want.Code) && errors.As(err, &as) && as == f
}

// sameWhy tells whether two errors are of one type and have the same; a path without places may be nil or not.
func sameWhy(a, b error) bool {
	f, isF := a.(*api.Fault)
	g, isG := b.(*api.Fault)
	if isF && isG && f != nil && g != nil {
		return f.Code == g.Code && f.At == g.At && slices.Equal(f.Path, g.Path) && sameWhy(f.Why, g.Why)
	}
	return reflect.DeepEqual(a, b)
}

// told is an error in few words.
func told(err error) string {
	if f, is := err.(*api.Fault); is && f != nil {
		return fmt.Sprintf("error %d at %d path %v why (%s)", f.Code, f.At, f.Path, told(f.Why))
	}
	return fmt.Sprintf("%T %v", err, err)
}

// brief is what a test tells of something: as much as fits a few lines.
func brief(x any) string {
	s := fmt.Sprintf("%+v", x)
	return strconv.Quote(s[:min(len(s), 400)])
}

func num(n int64) api.Num { return api.Num{Below: n < 0, Mag: string(big.NewInt(n).Bytes())} }

// numOf is a number that may be.
func numOf(x *big.Int) api.Num { return api.Num{Below: x.Sign() < 0, Mag: string(x.Bytes())} }

func numPart(n api.Num) api.Part { return api.Part{Kind: api.Int, Num: n} }

func intPart(n int64) api.Part { return numPart(num(n)) }

func rawPart(k api.Kind, s string) api.Part { return api.Part{Kind: k, Raw: s} }

func boolPart(yes bool) api.Part { return api.Part{Kind: api.Bool, Yes: yes} }

func tuplePart(items ...api.Part) api.Part { return api.Part{Kind: api.Tuple, Items: items} }

// must is the value of a part that may be.
func must(t testing.TB, p api.Part) value.Value {
	t.Helper()
	v, e := value.Make(p)
	if e != api.OK {
		t.Fatalf("%s: error %d", brief(p), e)
	}
	return v
}

// is is a field called a of that kind, with as much as its kind must say.
func is(k api.Kind) api.Field {
	f := api.Field{Name: "a", Kind: k}
	switch k {
	case api.Bytes, api.Name:
		f.Most = 9
	case api.Text:
		f.Collate.Strength = 3
	case api.Tuple:
		f.Fields = []api.Field{is(api.Bool)}
	}
	return f
}

func named(name string, f api.Field) api.Field {
	f.Name = name
	return f
}

func most(k api.Kind, n int) api.Field { return api.Field{Name: "a", Kind: k, Most: n} }

func bounded(low, high api.Num) api.Field {
	return api.Field{Name: "a", Kind: api.Int, Bounded: true, Low: low, High: high}
}

func tupleField(name string, fields ...api.Field) api.Field {
	return api.Field{Name: name, Kind: api.Tuple, Fields: fields}
}

func withNulls(f api.Field, n api.Nulls) api.Field {
	f.Nulls = n
	return f
}

// of is a schema of these fields.
func of(fields ...api.Field) api.Schema { return api.Schema{Limit: 9, Fields: fields} }

// many are that many fields, which differ by their names alone.
func many(n int) []api.Field {
	var l []api.Field
	for i := range n {
		l = append(l, named("f"+strconv.Itoa(i), is(api.Bool)))
	}
	return l
}

// wrapped is a field within that many tuples of one field, and the value of the field likewise.
func wrapped(n int, f api.Field, p api.Part) (api.Field, api.Part) {
	for range n {
		f, p = tupleField("d", f), tuplePart(p)
	}
	return f, p
}

// count is how many fields there are, with those within.
func count(fields []api.Field) int {
	n := len(fields)
	for _, f := range fields {
		n += count(f.Fields)
	}
	return n
}

// rightField is some field that may be, called so.
func rightField(r *rand.Rand, name string, deep int) api.Field {
	f := api.Field{Name: name, Kind: api.Kind(1 + r.Intn(7)), Down: r.Intn(2) == 0, Nulls: api.Nulls(r.Intn(3))}
	if deep > 1 && r.Intn(3) == 0 {
		f.Kind = api.Tuple
	}
	if deep <= 1 && f.Kind == api.Tuple {
		f.Kind = api.ID
	}
	switch f.Kind {
	case api.Int:
		f.Bounded = r.Intn(3) > 0
		if f.Bounded {
			low := r.Int63n(20) - 12
			f.Low, f.High = num(low), num(low+r.Int63n(300))
		}
	case api.Bytes, api.Name:
		f.Most = r.Intn(7)
	case api.Text:
		f.Collate = api.Collate{Strength: 1 + r.Intn(3), Shifted: r.Intn(2) == 0, Back: r.Intn(2) == 0}
	case api.Tuple:
		f.Fields = rightFields(r, 1+r.Intn(4), deep-1)
	}
	return f
}

func rightFields(r *rand.Rand, n, deep int) []api.Field {
	var l []api.Field
	for i := range n {
		l = append(l, rightField(r, "f"+strconv.Itoa(i), deep))
	}
	return l
}

// rightSchema is some schema that may be.
func rightSchema(r *rand.Rand) api.Schema {
	for {
		s := api.Schema{Limit: 1 + r.Intn(65536), Fields: rightFields(r, 1+r.Intn(6), 1+r.Intn(5))}
		if count(s.Fields) <= 60 {
			return s
		}
	}
}

// spelt is some text that is UTF-8, of so many bytes at most.
func spelt(r *rand.Rand, most int) string {
	s := ""
	for {
		c := []string{"a", "\x00", "\u00e9", "\u20ac", "\U0001f600", "\ufffd"}[r.Intn(6)]
		if r.Intn(4) == 0 || len(s)+len(c) > most {
			return s
		}
		s += c
	}
}

// anyBytes are some bytes.
func anyBytes(r *rand.Rand, n int) string {
	s := make([]byte, n)
	r.Read(s)
	return string(s)
}

// rightPart is some value of a field.
func rightPart(r *rand.Rand, f api.Field) api.Part {
	if f.Nulls != api.NeverNull && r.Intn(6) == 0 {
		return api.Part{}
	}
	switch f.Kind {
	case api.Bool:
		return boolPart(r.Intn(2) == 0)
	case api.Int:
		if !f.Bounded {
			return intPart(r.Int63() - r.Int63())
		}
		low, high := plainBig(f.Low).Int64(), plainBig(f.High).Int64()
		return intPart([]int64{low, high, low + r.Int63n(high-low+1)}[r.Intn(3)])
	case api.Bytes:
		return rawPart(api.Bytes, anyBytes(r, r.Intn(f.Most+1)))
	case api.ID:
		return rawPart(api.ID, anyBytes(r, 16))
	case api.Name:
		return rawPart(api.Name, spelt(r, f.Most))
	case api.Text:
		return rawPart(api.Text, spelt(r, 20))
	}
	return rightTuple(r, f.Fields)
}

func rightTuple(r *rand.Rand, fields []api.Field) api.Part {
	p := api.Part{Kind: api.Tuple}
	for _, f := range fields {
		p.Items = append(p.Items, rightPart(r, f))
	}
	return p
}

// anyPart is some value of any kind.
func anyPart(r *rand.Rand) api.Part {
	k := api.Kind(r.Intn(8))
	switch k {
	case api.Bool:
		return boolPart(r.Intn(2) == 0)
	case api.Int:
		return intPart(r.Int63n(600) - 300)
	case api.Bytes, api.Name, api.Text:
		return rawPart(k, []string{"", "a", "abc", "\xff", "ab\xc3", strings.Repeat("a", r.Intn(12)), anyBytes(r, r.Intn(4))}[r.Intn(7)])
	case api.ID:
		return rawPart(k, anyBytes(r, 16))
	case api.Tuple:
		p := api.Part{Kind: k}
		for range r.Intn(3) {
			p.Items = append(p.Items, anyPart(r))
		}
		return p
	}
	return api.Part{}
}

// changed is a value in which one thing is otherwise.
func changed(r *rand.Rand, p api.Part) api.Part {
	if p.Kind == api.Tuple && len(p.Items) > 0 && r.Intn(8) > 0 {
		p.Items = slices.Clone(p.Items)
		i := r.Intn(len(p.Items))
		p.Items[i] = changed(r, p.Items[i])
		return p
	}
	switch {
	case p.Kind == api.Tuple && r.Intn(2) == 0:
		p.Items = append(slices.Clone(p.Items), anyPart(r))
		return p
	case p.Kind == api.Tuple && len(p.Items) > 0:
		p.Items = p.Items[:len(p.Items)-1]
		return p
	case p.Kind == api.Int && r.Intn(2) == 0:
		x := plainBig(p.Num)
		return numPart(numOf(x.Add(x, big.NewInt(r.Int63n(3)-1))))
	case p.Kind >= api.Bytes && p.Kind <= api.Text && p.Kind != api.ID && r.Intn(2) == 0:
		at := r.Intn(len(p.Raw) + 1)
		p.Raw = p.Raw[:at] + []string{"a", "\xff", "\xe2\x82", "\x80"}[r.Intn(4)] + p.Raw[at:]
		return p
	}
	return anyPart(r)
}
