package fit

import (
	"math/big"
	"math/rand"
	"reflect"
	"slices"
	"strings"
	"testing"
	"unsafe"

	"dovetail/api"
	"dovetail/value"
)

// wantLeast: Least of a field is the value of that part, which is one of the field's.
func wantLeast(t *testing.T, f api.Field, want api.Part) {
	t.Helper()
	v, e := Least(f)
	if e != api.OK || !value.Same(v, must(t, want)) {
		t.Fatalf("%s: %s, error %d", brief(f), brief(value.Tell(v)), e)
	}
	if err := Field(f, v); err != nil {
		t.Errorf("%s: its least is none of it: %s", brief(f), told(err))
	}
	if got := plainLeast(f); !value.Same(must(t, got), v) {
		t.Errorf("%s: the words say %s", brief(f), brief(got))
	}
}

// TestLeast is P12.3: each kind, with and without bounds; that of the chapter's table among them.
func TestLeast(t *testing.T) {
	nought := rawPart(api.ID, strings.Repeat("\x00", 16))
	wantLeast(t, tupleField("a", is(api.ID), named("b", bounded(num(5), num(9)))), tuplePart(nought, intPart(5)))
	for _, nulls := range []api.Nulls{api.NeverNull, api.NullFirst, api.NullLast} {
		for _, down := range []bool{false, true} {
			try := func(f api.Field, p api.Part) {
				t.Helper()
				f.Nulls, f.Down = nulls, down
				wantLeast(t, f, p)
				wantLeast(t, withNulls(tupleField("t", f), nulls), tuplePart(p))
			}
			try(is(api.Bool), boolPart(false))
			try(is(api.Int), intPart(0))
			try(most(api.Bytes, 0), rawPart(api.Bytes, ""))
			try(most(api.Bytes, 65536), rawPart(api.Bytes, ""))
			try(is(api.ID), nought)
			try(most(api.Name, 0), rawPart(api.Name, ""))
			try(most(api.Name, 9), rawPart(api.Name, ""))
			try(is(api.Text), rawPart(api.Text, ""))
			try(is(api.Tuple), tuplePart(boolPart(false)))
			for _, low := range []int64{-1 << 62, -256, -1, 0, 1, 5, 1 << 62} {
				try(bounded(num(low), num(low)), intPart(low))
				try(bounded(num(low), num(1<<62)), intPart(low))
			}
		}
	}
	edge := new(big.Int).Lsh(big.NewInt(1), 255*8)
	edge.Sub(edge, big.NewInt(1))
	low := numOf(new(big.Int).Neg(edge))
	wantLeast(t, bounded(low, numOf(edge)), numPart(low))
	wantLeast(t, bounded(numOf(edge), numOf(edge)), numPart(numOf(edge)))
}

// TestLeastWithin is P12.3: tuples within tuples, up to the deepest, and of as many fields as there may be.
func TestLeastWithin(t *testing.T) {
	for n := range 16 {
		f, p := wrapped(n, bounded(num(-3), num(3)), intPart(-3))
		wantLeast(t, f, p)
	}
	wantLeast(t, tupleField("a", many(63)...), tuplePart(slices.Repeat([]api.Part{boolPart(false)}, 63)...))
	r := rand.New(rand.NewSource(123))
	for range 3000 {
		f := rightField(r, "a", 1+r.Intn(4))
		wantLeast(t, f, plainLeast(f))
	}
}

// TestLeastArg is P12.3: of a field that may not be there is none.
func TestLeastArg(t *testing.T) {
	deep, _ := wrapped(16, is(api.Bool), api.Part{})
	for _, f := range []api.Field{
		{},
		{Kind: api.Bool},
		{Name: "a"},
		{Name: "a", Kind: 8},
		{Name: "A", Kind: api.Bool},
		{Name: "a", Kind: api.Bool, Nulls: 3},
		{Name: "a", Kind: api.Bool, Most: 1},
		{Name: "a", Kind: api.Int, Low: num(5)},
		{Name: "a", Kind: api.Text},
		bounded(num(1), num(0)),
		bounded(api.Num{Mag: "\x00"}, num(0)),
		most(api.Bytes, -1),
		most(api.Name, 65537),
		tupleField("a"),
		tupleField("a", is(api.Bool), is(api.Bool)),
		tupleField("a", is(api.Bool), tupleField("b", most(api.Name, -1))),
		tupleField("a", many(64)...),
		deep,
	} {
		if v, e := Least(f); v != nil || e != api.ErrArg {
			t.Errorf("%s: %s, error %d", brief(f), brief(v), e)
		}
	}
}

// TestLeastMemory is R2: the value shares no memory with the field, and stays as it is.
func TestLeastMemory(t *testing.T) {
	memory := []byte("\x01\x02")
	low := api.Num{Mag: unsafe.String(&memory[0], len(memory))}
	f := tupleField("a", named("x", bounded(low, num(1<<40))), named("y", is(api.ID)))
	a, _ := Least(f)
	b, _ := Least(f)
	told := value.Tell(a)
	copy(memory, "\x07\x07")
	f.Fields[1].Kind = api.Bool
	want := tuplePart(intPart(258), rawPart(api.ID, string(make([]byte, 16))))
	if !reflect.DeepEqual(told, want) || !value.Same(a, must(t, want)) {
		t.Errorf("it changed with the field: %s", brief(value.Tell(a)))
	}
	told.Items[0] = api.Part{}
	if !value.Same(a, b) || !value.Same(b, must(t, want)) {
		t.Errorf("%s", brief(value.Tell(b)))
	}
}
