package field_test

import (
	"math/rand"
	"slices"
	"strings"
	"testing"

	"dovetail/api"
	"dovetail/field"
	"dovetail/order"
	"dovetail/value"
	"dovetail/weigh"
)

// What may stand behind a field's bytes: the least, the greatest, and what could be taken for more of them.
func behinds() []string {
	return []string{"", "\x00", "\x01", "\x00\x01", "\x00\xff", "\xff", "\xff\xfe", "\xfe", "\x80", strings.Repeat("\xff", 300)}
}

// fieldsOf are fields of a kind: which rise and fall, with each Nulls, and of Text by each collation.
func fieldsOf(k api.Kind) []api.Field {
	plain := []api.Field{is(k)}
	if k == api.Text {
		plain = nil
		for _, by := range collations() {
			plain = append(plain, collated(by))
		}
	}
	var l []api.Field
	for _, f := range plain {
		for _, n := range []api.Nulls{api.NeverNull, api.NullFirst, api.NullLast} {
			l = append(l, nulls(n, f), nulls(n, down(f)))
		}
	}
	return l
}

// valuesOf are values of a field: of its kind's samples, and null where it may be.
func valuesOf(f api.Field) []api.Part {
	l := samples()[f.Kind]
	if f.Nulls != api.NeverNull {
		return append([]api.Part{null()}, l...)
	}
	return l
}

// TestThereAndBack is P14.3: Take of what Put tells, whatever stands behind it, is the same value, and as many bytes.
func TestThereAndBack(t *testing.T) {
	x := odd(t)
	for k := api.Bool; k <= api.Tuple; k++ {
		for _, f := range fieldsOf(k) {
			for _, p := range valuesOf(f) {
				for _, in := range places() {
					backAgain(t, x, in.f(f), in.p(p))
				}
			}
		}
	}
	r := rand.New(rand.NewSource(145))
	for range 3000 {
		f := anyField(r, "a", 1+r.Intn(5))
		backAgain(t, x, f, anyPart(r, f))
	}
}

func backAgain(t *testing.T, x *weigh.Tables, f api.Field, p api.Part) {
	t.Helper()
	v := must(t, p)
	s, err := field.Put(x, f, v)
	if err != nil {
		t.Fatal(told(err))
	}
	for _, behind := range behinds() {
		w, n, err := field.Take(x, f, s+behind)
		if err != nil || n != len(s) || !value.Same(v, w) {
			t.Fatalf("%s; %s: %s, %d, %s", brief(f), hex(s+behind), brief(value.Tell(w)), n, told(err))
		}
	}
}

// TestNoBeginning is P14.3: of no two values the bytes of the one begin those of the other; what is cut off anywhere is short.
func TestNoBeginning(t *testing.T) {
	x := odd(t)
	for k := api.Bool; k <= api.Tuple; k++ {
		for _, f := range fieldsOf(k) {
			var all []string
			for _, p := range valuesOf(f) {
				s := putOf(t, x, f, p)
				all = append(all, s)
				for i := range len(s) {
					if bad := checkTake(t, x, f, s[:i]); bad == nil || bad.Code != api.ErrFieldShort || bad.At != i {
						t.Fatalf("%s; %s: %s", brief(f), hex(s[:i]), told(bad))
					}
				}
			}
			slices.Sort(all) // what begins another one stands right ahead of one that it begins
			for i := range len(all) - 1 {
				if strings.HasPrefix(all[i+1], all[i]) {
					t.Fatalf("%s: %s, %s", brief(f), hex(all[i]), hex(all[i+1]))
				}
			}
		}
	}
}

// TestOneToOne is P14.3: of all short rows of bytes that count Take reads just those that Put tells of the values there are, one for each.
func TestOneToOne(t *testing.T) {
	x := load(t, "", "0061;[.0001.0001.0001]")
	for _, c := range []struct {
		f      api.Field
		ahead  string
		among  string
		most   int // bytes behind what stands ahead
		values []api.Part
	}{
		{nulls(api.NullFirst, is(api.Bool)), "", "\x00\x01\x02\x11\x7d\xfd", 3, []api.Part{null(), boolPart(false), boolPart(true)}},
		{nulls(api.NullLast, down(is(api.Bool))), "", "\x02\x21\x7d\x82\xfe\xff", 3, []api.Part{null(), boolPart(false), boolPart(true)}},
		{bounded(num(-2), num(2)), "\x12", "\x00\x01\x02\x7f\x80\x81\xfd\xfe\xff", 4, []api.Part{intPart(-2), intPart(-1), intPart(0), intPart(1), intPart(2)}},
		{most(1, is(api.Bytes)), "\x13", "\x00\x01a\xff", 6, []api.Part{bytesPart(""), bytesPart("\x00"), bytesPart("\x01"), bytesPart("a"), bytesPart("\xff")}},
		{most(2, down(is(api.Name))), "\x25", "\xff\xfe\x00\x3c\x56", 6, []api.Part{namePart(""), namePart("\x00"), namePart("\x01"), namePart("\x00\x00"), namePart("\x00\x01"), namePart("\x01\x00"), namePart("\x01\x01"), namePart("\u00e9")}},
		{collated(api.Collate{Strength: 1}), "\x16\x21", "\x00\x01a", 10, []api.Part{textPart(""), textPart("a"), textPart("aa")}},
		{tupleOf(nulls(api.NullFirst, is(api.Bool)), down(is(api.Bool))), "\x17", "\x00\x01\x02\x11\x21\xfe\xff", 5, []api.Part{
			tuplePart(null(), boolPart(false)), tuplePart(null(), boolPart(true)), tuplePart(boolPart(false), boolPart(false)),
			tuplePart(boolPart(false), boolPart(true)), tuplePart(boolPart(true), boolPart(false)), tuplePart(boolPart(true), boolPart(true))}},
	} {
		want := map[string]int{}
		for _, p := range c.values {
			want[putOf(t, x, c.f, p)]++
		}
		seen := map[string]int{}
		for row := range rowsOf(c.among, c.most) {
			b := c.ahead + row
			if v, n, err := field.Take(x, c.f, b); err == nil && n == len(b) {
				seen[b]++
				if s := putOf(t, x, c.f, value.Tell(v)); s != b {
					t.Errorf("%s: put again %s", hex(b), hex(s))
				}
			}
			if len(row) < c.most { // the longest ones are very many
				checkTake(t, x, c.f, b)
			}
		}
		for b := range want {
			if seen[b] != 1 {
				t.Errorf("%s: %s is not read", brief(c.f), hex(b))
			}
		}
		if len(want) != len(c.values) || len(seen) != len(want) {
			t.Errorf("%s: %d values, %d rows of bytes, %d read", brief(c.f), len(c.values), len(want), len(seen))
		}
	}
}

// rowsOf are all rows of up to so many of these bytes.
func rowsOf(among string, most int) func(func(string) bool) {
	return func(yield func(string) bool) {
		var grow func(row string) bool
		grow = func(row string) bool {
			if !yield(row) {
				return false
			}
			for i := range len(among) {
				if len(row) < most && !grow(row+among[i:i+1]) {
					return false
				}
			}
			return true
		}
		grow("")
	}
}

// wantOrder: what Put tells of two values, whatever stands behind both, stands as the values do.
func wantOrder(t *testing.T, x *weigh.Tables, f api.Field, a, b api.Part) {
	t.Helper()
	v, w := must(t, a), must(t, b)
	want, err := order.Field(x, f, v, w)
	first, bad := field.Put(x, f, v)
	second, worse := field.Put(x, f, w)
	if err != nil || bad != nil || worse != nil {
		t.Fatalf("%s, %s, %s", told(err), told(bad), told(worse))
	}
	if want == 0 {
		if first != second {
			t.Fatalf("%s; %s: %s, %s", brief(f), brief(a), hex(first), hex(second))
		}
		return
	}
	for _, pair := range [][2]string{{"", ""}, {"\xff", ""}, {"", "\xff"}, {"\x00", "\xff\xff"}, {"\xff\xff", "\x00"}, {"\x00\x01", "\x00\xff"}} {
		if n := strings.Compare(first+pair[0], second+pair[1]); n != want {
			t.Fatalf("%s; %s, %s: %s, %s: %d, not %d", brief(f), brief(a), brief(b), hex(first), hex(second), n, want)
		}
	}
}

// TestOrder is P14.4: all pairs of values of each kind, where the field rises and falls, within tuples that rise, fall, and fall twice.
func TestOrder(t *testing.T) {
	x := odd(t)
	for k := api.Bool; k <= api.Tuple; k++ {
		for _, f := range fieldsOf(k) {
			l := valuesOf(f)
			for i, a := range l {
				for _, b := range l[i:] {
					if k == api.Text { // there are very many
						wantOrder(t, x, f, a, b)
						continue
					}
					for _, in := range places() {
						wantOrder(t, x, in.f(f), in.p(a), in.p(b))
					}
				}
			}
		}
	}
}

// TestOrderNulls is P14.4, by hand: null stands ahead or behind, though the field falls; where a tuple falls about it, the other way round.
func TestOrderNulls(t *testing.T) {
	x := odd(t)
	for k, l := range samples() {
		for _, p := range l {
			for _, f := range []api.Field{is(k), down(is(k))} {
				for _, in := range places() {
					one, other := putOf(t, x, in.f(nulls(api.NullFirst, f)), in.p(null())), putOf(t, x, in.f(nulls(api.NullFirst, f)), in.p(p))
					last, ahead := putOf(t, x, in.f(nulls(api.NullLast, f)), in.p(null())), putOf(t, x, in.f(nulls(api.NullLast, f)), in.p(p))
					if in.turns%2 == 1 {
						one, other, last, ahead = other, one, ahead, last
					}
					if one >= other || ahead >= last {
						t.Fatalf("%s; %s: %s, %s, %s, %s", brief(in.f(f)), brief(p), hex(one), hex(other), hex(last), hex(ahead))
					}
				}
			}
		}
	}
}

// TestOrderAny is P14.4: fields of every shape, and values that are unlike in one place.
func TestOrderAny(t *testing.T) {
	x := odd(t)
	r := rand.New(rand.NewSource(146))
	for range 4000 {
		f := anyField(r, "a", 1+r.Intn(5))
		p := anyPart(r, f)
		for range 4 {
			q := near(r, f, p)
			wantOrder(t, x, f, p, q)
			wantOrder(t, x, f, q, anyPart(r, f))
			p = q
		}
	}
}

// TestSameTexts is T2: texts that are canonically the same, and not spelt alike, have bytes that differ behind their sort keys alone.
func TestSameTexts(t *testing.T) {
	x := odd(t)
	for _, pair := range [][2]string{{"\u00e1", "a\u0301"}, {"b\u00e1\u0323", "ba\u0323\u0301"}, {"a\u0301\u0323", "a\u0323\u0301"}} {
		for _, by := range collations() {
			if same, e := x.Same(pair[0], pair[1]); !same || e != api.OK {
				t.Fatalf("%q, %q", pair[0], pair[1])
			}
			key, _ := x.Key(by, pair[0])
			first, second := putOf(t, x, collated(by), textPart(pair[0])), putOf(t, x, collated(by), textPart(pair[1]))
			ahead := 2 + len(key)
			if first == second || first[:ahead] != second[:ahead] || first[ahead:] != pair[0]+"\x00\x01" || second[ahead:] != pair[1]+"\x00\x01" {
				t.Errorf("%+v: %s, %s", by, hex(first), hex(second))
			}
		}
	}
}

// FuzzTake is P14.2 and P14.3, of any bytes: Take answers as the words do.
func FuzzTake(f *testing.F) {
	x := odd(f)
	r := rand.New(rand.NewSource(147))
	for seed := range int64(40) {
		g := anyField(r, "a", 4)
		f.Add(seed, []byte(putOf(f, x, g, anyPart(r, g))))
	}
	f.Fuzz(func(t *testing.T, seed int64, b []byte) {
		g := anyField(rand.New(rand.NewSource(seed)), "a", 4)
		checkTake(t, x, g, string(b))
		if len(b) > 0 { // with a tag that leads further
			checkTake(t, x, g, string([]byte{plainTag(g)})+string(b[1:]))
		}
	})
}
