package pack_test

import (
	"math/rand"
	"slices"
	"strings"
	"testing"

	"dovetail/api"
	"dovetail/ord"
	"dovetail/order"
	"dovetail/pack"
	"dovetail/value"
	"dovetail/weigh"
)

// TestThereAndBack is P15.3: Decode of what Encode tells is the same tuple, each text spelt as it was; and there is a key just of the schema's tuples whose keys are not too long.
func TestThereAndBack(t *testing.T) {
	x := odd(t)
	for k, l := range samples() {
		for _, f := range []api.Field{is(k), down(is(k)), nulls(api.NullFirst, is(k)), nulls(api.NullLast, down(is(k)))} {
			for _, p := range l {
				backAgain(t, x, schemaOf(65536, f), tuplePart(p))
				backAgain(t, x, schemaOf(65536, is(api.Bool), f, down(tupleOf(f)), f), tuplePart(boolPart(true), p, tuplePart(p), p))
			}
		}
	}
	for _, by := range collations() {
		for _, s := range texts() {
			backAgain(t, x, schemaOf(65536, collated(by), is(api.Int)), tuplePart(textPart(s), intPart(7)))
		}
	}
	s, p := many(64)
	backAgain(t, x, s, p)
	s, p = deepest()
	backAgain(t, x, s, p)
}

func backAgain(t *testing.T, x *weigh.Tables, s api.Schema, p api.Part) {
	t.Helper()
	v := must(t, p)
	key, err := pack.Encode(x, s, v)
	if err != nil {
		t.Fatalf("%s; %s: %s", brief(s), brief(p), told(err))
	}
	w, err := pack.Decode(x, s, key)
	if err != nil || !value.Same(v, w) {
		t.Fatalf("%s; %s: %s, %s", brief(s), hex(key), brief(value.Tell(w)), told(err))
	}
}

// TestEveryByte is P15.4: of all short rows of bytes that count Decode reads just the keys of the tuples there are, one for each; At is none above their end.
func TestEveryByte(t *testing.T) {
	x := load(t, "", "0061;[.0001.0001.0001]")
	no, yes := boolPart(false), boolPart(true)
	for _, c := range []struct {
		s      api.Schema
		among  string
		most   int
		tuples []api.Part
	}{
		{schemaOf(9, nulls(api.NullFirst, is(api.Bool))), "\x00\x01\x02\x11\x7d", 4, []api.Part{tuplePart(null()), tuplePart(no), tuplePart(yes)}},
		{schemaOf(3, nulls(api.NullFirst, is(api.Bool)), nulls(api.NullLast, down(is(api.Bool)))), "\x00\x01\x02\x11\x21\x7d\xfe\xff", 5, // by the limit not two of the longer ones
			[]api.Part{tuplePart(null(), null()), tuplePart(null(), no), tuplePart(null(), yes), tuplePart(no, null()), tuplePart(yes, null())}},
		{schemaOf(9, bounded(num(-1), num(1)), nulls(api.NullLast, is(api.Bool))), "\x00\x01\x11\x12\x7d\x7f\x80\x81\xfe", 5,
			[]api.Part{tuplePart(intPart(-1), null()), tuplePart(intPart(0), null()), tuplePart(intPart(1), null()),
				tuplePart(intPart(-1), no), tuplePart(intPart(0), no), tuplePart(intPart(1), no),
				tuplePart(intPart(-1), yes), tuplePart(intPart(0), yes), tuplePart(intPart(1), yes)}},
		{schemaOf(6, most(9, is(api.Bytes)), nulls(api.NullFirst, is(api.Bool))), "\x00\x01\x02\x13\xff", 7,
			[]api.Part{tuplePart(bytesPart(""), null()), tuplePart(bytesPart("\x00"), null()), tuplePart(bytesPart("\x01"), null()), tuplePart(bytesPart("\x02"), null()), tuplePart(bytesPart("\x13"), null()), tuplePart(bytesPart("\xff"), null()),
				tuplePart(bytesPart("\x01\x01"), null()), tuplePart(bytesPart("\x01\x02"), null()), tuplePart(bytesPart("\x01\x13"), null()), tuplePart(bytesPart("\x01\xff"), null()),
				tuplePart(bytesPart("\x02\x01"), null()), tuplePart(bytesPart("\x02\x02"), null()), tuplePart(bytesPart("\x02\x13"), null()), tuplePart(bytesPart("\x02\xff"), null()),
				tuplePart(bytesPart("\x13\x01"), null()), tuplePart(bytesPart("\x13\x02"), null()), tuplePart(bytesPart("\x13\x13"), null()), tuplePart(bytesPart("\x13\xff"), null()),
				tuplePart(bytesPart("\xff\x01"), null()), tuplePart(bytesPart("\xff\x02"), null()), tuplePart(bytesPart("\xff\x13"), null()), tuplePart(bytesPart("\xff\xff"), null())}},
		{schemaOf(9, down(tupleOf(nulls(api.NullFirst, is(api.Bool)))), nulls(api.NullLast, is(api.Bool))), "\x27\xfd\xee\xff\xfe\x7d\x11\x00", 5,
			[]api.Part{tuplePart(tuplePart(null()), null()), tuplePart(tuplePart(null()), no), tuplePart(tuplePart(no), null()), tuplePart(tuplePart(yes), null())}},
	} {
		want := map[string]int{}
		for _, p := range c.tuples {
			want[keyOf(t, x, c.s, p)]++
		}
		seen := 0
		for row := range rowsOf(c.among, c.most) {
			bad := checkDecode(t, x, c.s, row)
			if bad == nil {
				seen++
			}
			if (bad == nil) != (want[row] == 1) {
				t.Errorf("%s; %s: %s", brief(c.s), hex(row), told(bad))
			}
		}
		if len(want) != len(c.tuples) || seen != len(want) {
			t.Errorf("%s: %d tuples, %d keys, %d read", brief(c.s), len(c.tuples), len(want), seen)
		}
	}
}

// rowsOf are all rows of up to so many of these bytes.
func rowsOf(among string, most int) func(func(string) bool) {
	return func(yield func(string) bool) {
		var grow func(row string) bool
		grow = func(row string) bool {
			if !yield(row) {
				return false
			}
			for i := range len(among) {
				if len(row) < most && !grow(row+among[i:i+1]) {
					return false
				}
			}
			return true
		}
		grow("")
	}
}

// TestNoBeginning is P15.4: no key of a schema is the beginning of another one.
func TestNoBeginning(t *testing.T) {
	x := odd(t)
	r := rand.New(rand.NewSource(153))
	for range 300 {
		s := anySchema(r, 1+r.Intn(3))
		p := anyTuple(r, s)
		tuples := map[string]api.Part{}
		for range 40 {
			key := keyOf(t, x, s, p)
			if q, is := tuples[key]; is && !value.Same(must(t, p), must(t, q)) {
				t.Fatalf("%s; %s, %s: both %s", brief(s), brief(p), brief(q), hex(key))
			}
			tuples[key] = p
			p = nearTuple(r, s, p)
		}
		var all []string
		for key := range tuples {
			all = append(all, key)
		}
		slices.Sort(all) // what begins another one stands right ahead of one that it begins
		for i := range len(all) - 1 {
			if strings.HasPrefix(all[i+1], all[i]) {
				t.Fatalf("%s: %s, %s", brief(s), hex(all[i]), hex(all[i+1]))
			}
		}
	}
}

// wantOrder: the keys of two tuples stand as the tuples do, by layer 13, which knows of none.
func wantOrder(t *testing.T, x *weigh.Tables, s api.Schema, a, b api.Part) int {
	t.Helper()
	v, w := must(t, a), must(t, b)
	want, err := order.Compare(x, s, v, w)
	one, bad := pack.Encode(x, s, v)
	two, worse := pack.Encode(x, s, w)
	if err != nil || bad != nil || worse != nil {
		t.Fatalf("%s, %s, %s", told(err), told(bad), told(worse))
	}
	if n := ord.Compare(one, two); n != want || strings.Compare(one, two) != want || (one == two) != value.Same(v, w) {
		t.Fatalf("%s; %s, %s: %s, %s: %d, not %d", brief(s), brief(a), brief(b), hex(one), hex(two), n, want)
	}
	return want
}

// TestOrder is P15.5 (and P13.5): all pairs of values of each kind, as a schema's only field, as its last one, and ahead of one that would have it otherwise.
func TestOrder(t *testing.T) {
	x := odd(t)
	for k, l := range samples() {
		for _, f := range []api.Field{nulls(api.NullFirst, is(k)), nulls(api.NullLast, down(is(k)))} {
			l := append([]api.Part{null()}, l...)
			for i, a := range l {
				for j, b := range l[i:] {
					if k == api.Text && j > 9 { // there are very many
						break
					}
					n := wantOrder(t, x, schemaOf(65536, f), tuplePart(a), tuplePart(b))
					if m := wantOrder(t, x, schemaOf(65536, is(api.Int), f), tuplePart(intPart(1), a), tuplePart(intPart(1), b)); m != n {
						t.Fatalf("%s, %s: %d, %d", brief(a), brief(b), n, m)
					}
					for _, ahead := range [][2]int64{{-1, 1}, {1, -1}} {
						m := wantOrder(t, x, schemaOf(65536, f, is(api.Int)), tuplePart(a, intPart(ahead[0])), tuplePart(b, intPart(ahead[1])))
						if n != 0 && m != n {
							t.Fatalf("%s, %s: %d, %d", brief(a), brief(b), n, m)
						}
					}
				}
			}
		}
	}
}

// TestOrderAny is P15.5 (and P13.5): schemas of every shape, and tuples that are unlike in one place.
func TestOrderAny(t *testing.T) {
	x := odd(t)
	r := rand.New(rand.NewSource(154))
	for range 4000 {
		s := anySchema(r, 1+r.Intn(4))
		p := anyTuple(r, s)
		for range 4 {
			q := nearTuple(r, s, p)
			wantOrder(t, x, s, p, q)
			wantOrder(t, x, s, q, anyTuple(r, s))
			p = q
		}
	}
}

// TestOrderByHand is P15.5 where the keys are written out: tuples in their order, and their keys in that of bytes.
func TestOrderByHand(t *testing.T) {
	x := odd(t)
	s := schemaOf(64, nulls(api.NullFirst, down(is(api.Int))), down(tupleOf(nulls(api.NullFirst, is(api.Bool)))))
	null1, no, yes := tuplePart(null()), tuplePart(boolPart(false)), tuplePart(boolPart(true))
	rising := []struct {
		p   api.Part
		key string
	}{
		{tuplePart(null(), yes), "\x02\x27\xee\xfe\xfe"},
		{tuplePart(null(), no), "\x02\x27\xee\xff\xfe"},
		{tuplePart(null(), null1), "\x02\x27\xfd\xfe"},
		{tuplePart(intPart(1), yes), "\x22\x7e\xfe\x27\xee\xfe\xfe"},
		{tuplePart(intPart(0), null1), "\x22\x7f\x27\xfd\xfe"},
		{tuplePart(intPart(-1), yes), "\x22\x80\x01\x27\xee\xfe\xfe"},
	}
	for i, c := range rising {
		wantKey(t, x, s, c.p, c.key)
		for j, d := range rising {
			if n := wantOrder(t, x, s, c.p, d.p); (n < 0) != (i < j) || (n > 0) != (i > j) {
				t.Errorf("%s, %s: %d", brief(c.p), brief(d.p), n)
			}
		}
	}
}

// TestSameTexts is T2: texts that are canonically the same, and not spelt alike, have keys that differ behind their sort keys alone.
func TestSameTexts(t *testing.T) {
	x := odd(t)
	for _, pair := range [][2]string{{"\u00e1", "a\u0301"}, {"b\u00e1\u0323", "ba\u0323\u0301"}} {
		for _, by := range collations() {
			s := schemaOf(65536, is(api.Bool), collated(by))
			weighs, _ := x.Key(by, pair[0])
			one, two := keyOf(t, x, s, tuplePart(boolPart(true), textPart(pair[0]))), keyOf(t, x, s, tuplePart(boolPart(true), textPart(pair[1])))
			ahead := 4 + len(weighs)
			if one == two || one[:ahead] != two[:ahead] || one[ahead:] != pair[0]+"\x00\x01" || two[ahead:] != pair[1]+"\x00\x01" {
				t.Errorf("%+v: %s, %s", by, hex(one), hex(two))
			}
		}
	}
}

// FuzzDecode is P15.2 and P15.4, of any bytes: Decode answers as the words do, and reads just what Encode tells.
func FuzzDecode(f *testing.F) {
	x := odd(f)
	r := rand.New(rand.NewSource(155))
	for seed := range int64(40) {
		s := anySchema(rand.New(rand.NewSource(seed)), 3)
		f.Add(seed, []byte(keyOf(f, x, s, anyTuple(r, s))))
	}
	f.Fuzz(func(t *testing.T, seed int64, b []byte) {
		s := anySchema(rand.New(rand.NewSource(seed)), 3)
		checkDecode(t, x, s, string(b))
		s.Limit = max(1, len(b)-1)
		checkDecode(t, x, s, string(b))
	})
}
