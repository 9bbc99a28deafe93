package span_test

import (
	"math/rand"
	"slices"
	"strings"
	"testing"

	"dovetail/api"
	"dovetail/order"
	"dovetail/pack"
	"dovetail/span"
	"dovetail/value"
	"dovetail/weigh"
)

// keyed is a tuple and its key.
type keyed struct {
	p   api.Part
	v   value.List
	key string
}

// keyOf is a tuple with the key that pack tells of it.
func keyOf(t testing.TB, x *weigh.Tables, s api.Schema, p api.Part) keyed {
	t.Helper()
	v := must(t, p)
	key, err := pack.Encode(x, s, v)
	if err != nil {
		t.Fatalf("%s; %s: %s", brief(s), brief(p), told(err))
	}
	l, _ := value.AsList(v)
	return keyed{p, l, key}
}

// askedFor is what P16.5 says of a tuple: by its items alone, without any key.
func askedFor(t testing.TB, x *weigh.Tables, s api.Schema, a ask, v value.List) bool {
	t.Helper()
	n := len(a.p.Items)
	for i, p := range a.p.Items {
		if !value.Same(v.At(i), must(t, p)) {
			return false
		}
	}
	if a.call == "starts" {
		raw, is := value.AsRaw(v.At(n))
		return is && strings.HasPrefix(raw.Bytes(), a.start)
	}
	for _, b := range a.l {
		stands, err := order.Field(x, s.Fields[n], v.At(n), must(t, b.Part))
		if err != nil {
			t.Fatal(told(err))
		}
		if stands == 0 && !b.Equal || stands > 0 && !b.Above || stands < 0 && b.Above {
			return false
		}
	}
	return true
}

// wantJust: of these tuples just those have their keys in the span that were asked for; how many they are.
func wantJust(t testing.TB, x *weigh.Tables, s api.Schema, a ask, all []keyed) int {
	t.Helper()
	got, is := check(t, x, s, a)
	if !is {
		t.Fatalf("%s; %s: no span", brief(s), brief(a))
	}
	n := 0
	for _, k := range all {
		want := askedFor(t, x, s, a, k.v)
		if span.Has(got, k.key) != want {
			t.Fatalf("%s; %s; %s: %s has %s: not %v", brief(s), brief(a), brief(k.p), hexes(got), hex(k.key), want)
		}
		if want {
			n++
		}
	}
	if n > 0 && span.Empty(got) {
		t.Fatalf("%s; %s: %s is empty", brief(s), brief(a), hexes(got))
	}
	return n
}

// fieldsOf are fields of a kind that rise and fall, with each Nulls.
func fieldsOf(k api.Kind) []api.Field {
	var l []api.Field
	for _, n := range []api.Nulls{api.NeverNull, api.NullFirst, api.NullLast} {
		l = append(l, nulls(n, is(k)), nulls(n, down(is(k))))
	}
	return l
}

// valuesOf are values of a field: of its kind's samples, and null where it may be.
func valuesOf(f api.Field) []api.Part {
	if f.Nulls != api.NeverNull {
		return append([]api.Part{null()}, samples()[f.Kind]...)
	}
	return samples()[f.Kind]
}

// shape is a schema with fields about the one that bounds are on, the items ahead of that, and tuples of which some have others.
type shape struct {
	s     api.Schema
	ahead []api.Part
	all   []keyed
}

// shapes are those in which a field is the only one, the first, the last, and in the middle.
func shapes(t testing.TB, x *weigh.Tables, f api.Field) []shape {
	t.Helper()
	type side struct {
		fields []api.Field
		rows   [][]api.Part
	}
	var l []shape
	for _, ahead := range []side{{nil, [][]api.Part{{}}}, {[]api.Field{down(is(api.Int))}, [][]api.Part{{intPart(1)}, {intPart(2)}, {intPart(0)}}}} {
		for _, behind := range []side{{nil, [][]api.Part{{}}}, {[]api.Field{nulls(api.NullFirst, is(api.Int))}, [][]api.Part{{null()}, {intPart(-9)}, {intPart(255)}}}} {
			c := shape{s: schemaOf(65536, slices.Concat(ahead.fields, []api.Field{f}, behind.fields)...), ahead: ahead.rows[0]}
			for _, p := range valuesOf(f) {
				for _, first := range ahead.rows {
					for _, last := range behind.rows {
						c.all = append(c.all, keyOf(t, x, c.s, tuplePart(slices.Concat(first, []api.Part{p}, last)...)))
					}
				}
			}
			l = append(l, c)
		}
	}
	return l
}

// TestPrefixJust is P16.5: just the keys of those tuples lie in Prefix's span whose first items are the same.
func TestPrefixJust(t *testing.T) {
	x := odd(t)
	for k := api.Bool; k <= api.Tuple; k++ {
		for _, f := range fieldsOf(k) {
			for _, c := range shapes(t, x, f) {
				if n := wantJust(t, x, c.s, prefix(), c.all); n != len(c.all) {
					t.Errorf("%s: %d of %d begin with nothing", brief(f), n, len(c.all))
				}
				wantJust(t, x, c.s, prefix(c.ahead...), c.all)
				for _, p := range valuesOf(f) {
					if n := wantJust(t, x, c.s, prefix(append(c.ahead[:len(c.ahead):len(c.ahead)], p)...), c.all); n == 0 {
						t.Errorf("%s; %s: none begins so", brief(f), brief(p))
					}
				}
				for _, whole := range c.all {
					if n := wantJust(t, x, c.s, prefix(whole.p.Items...), c.all); k != api.Text && n != 1 {
						t.Errorf("%s: %d tuples", brief(whole.p), n)
					}
					if k == api.Text { // there are very many
						break
					}
				}
			}
		}
	}
}

// TestBoundsJust is P16.5: just the keys of those tuples lie in the span of Bounds whose next item stands to the bound as that says: each value as a bound of each make, against each.
func TestBoundsJust(t *testing.T) {
	x := odd(t)
	for k := api.Bool; k <= api.Tuple; k++ {
		for _, f := range fieldsOf(k) {
			for i, c := range shapes(t, x, f) {
				if k == api.Text && i%2 == 1 { // there are very many
					continue
				}
				ahead := tuplePart(c.ahead...)
				for _, p := range valuesOf(f) {
					in := [4]int{}
					for i, b := range makes(p) {
						in[i] = wantJust(t, x, c.s, bounds(ahead, b), c.all)
					}
					begun := wantJust(t, x, c.s, prefix(c.ahead...), c.all)
					if in[0]+in[3] != begun || in[1]+in[2] != begun || in[0] == in[1] { // what lies on the one side of a value lies not on the other
						t.Fatalf("%s; %s: %v of %d", brief(f), brief(p), in, begun)
					}
				}
			}
		}
	}
}

// TestTwoBoundsJust is P16.5 with bounds of both sides, and of one.
func TestTwoBoundsJust(t *testing.T) {
	x := odd(t)
	r := rand.New(rand.NewSource(164))
	for k := api.Bool; k <= api.Tuple; k++ {
		for _, f := range fieldsOf(k) {
			l := valuesOf(f)
			for _, c := range shapes(t, x, f) {
				for range 30 {
					p, q := makes(l[r.Intn(len(l))])[r.Intn(4)], makes(l[r.Intn(len(l))])[r.Intn(4)]
					wantJust(t, x, c.s, bounds(tuplePart(c.ahead...), p, q), c.all)
				}
			}
		}
	}
}

// TestTextsJust is P16.5 of texts, by each collation: bounds on what weighs the same, and is spelt otherwise.
func TestTextsJust(t *testing.T) {
	x := odd(t)
	for _, by := range collations() {
		for _, f := range []api.Field{collated(by), down(collated(by))} {
			s := schemaOf(65536, f, is(api.Bool))
			var all []keyed
			for _, p := range samples()[api.Text] {
				all = append(all, keyOf(t, x, s, tuplePart(p, boolPart(false))), keyOf(t, x, s, tuplePart(p, boolPart(true))))
			}
			for _, p := range samples()[api.Text] {
				for _, b := range makes(p) {
					wantJust(t, x, s, bounds(tuplePart(), b), all)
				}
				if n := wantJust(t, x, s, prefix(p), all); n != 2 { // a text that is spelt otherwise is another one
					t.Errorf("%s: %d", brief(p), n)
				}
			}
		}
	}
}

// TestStartsJust is P16.5: just the keys of those tuples lie in the span of Starts whose next item is not null, and begins with these bytes.
func TestStartsJust(t *testing.T) {
	x := odd(t)
	for _, k := range []api.Kind{api.Bytes, api.Name} {
		for _, f := range fieldsOf(k) {
			begins := map[string]bool{"b": true, "a\x00\x01": true, "\x00\xff\xff": true, "\xff\xff\xff": true, "a\x00bc": true, "\x01\x01": true, strings.Repeat("a", 70000): true}
			for _, p := range samples()[k] {
				for n := range len(p.Raw) + 1 { // those that end within a character among them
					begins[p.Raw[:n]] = true
				}
			}
			for _, c := range shapes(t, x, f) {
				ahead := tuplePart(c.ahead...)
				for start := range begins {
					n := wantJust(t, x, c.s, starts(ahead, start), c.all)
					some := slices.ContainsFunc(samples()[k], func(p api.Part) bool { return strings.HasPrefix(p.Raw, start) })
					if some != (n > 0) {
						t.Errorf("%s, %s: %d", brief(f), hex(start), n)
					}
				}
			}
		}
	}
}

// TestAnyJust is P16.5: schemas of every shape, beginnings and bounds that are often near to the tuples.
func TestAnyJust(t *testing.T) {
	x := odd(t)
	r := rand.New(rand.NewSource(165))
	in, of := 0, 0
	for range 400 {
		s := anySchema(r, 1+r.Intn(4))
		p := anyTuple(r, s)
		var all []keyed
		for range 30 {
			all = append(all, keyOf(t, x, s, p))
			p = nearTuple(r, s, p)
		}
		for range 6 {
			near := all[r.Intn(len(all))].p
			n := r.Intn(len(s.Fields))
			ahead := tuplePart(near.Items[:n]...)
			of += 3 * len(all)
			in += wantJust(t, x, s, prefix(ahead.Items...), all)
			in += wantJust(t, x, s, bounds(ahead, makes(near.Items[n])[r.Intn(4)]), all)
			in += wantJust(t, x, s, bounds(ahead, anyBounds(r, s.Fields[n])...), all)
			if k := s.Fields[n].Kind; k == api.Bytes || k == api.Name {
				raw := near.Items[n].Raw
				wantJust(t, x, s, starts(ahead, raw[:r.Intn(len(raw)+1)]), all)
				wantJust(t, x, s, starts(ahead, anyBytes(r, 2)), all)
			}
		}
	}
	if in < of/10 || in > of-of/10 {
		t.Errorf("%d of %d are asked for", in, of)
	}
}

// TestShortKeysJust is P16.5 where the limit lets some tuples have no key: of the others it holds as it does.
func TestShortKeysJust(t *testing.T) {
	x := odd(t)
	s := schemaOf(8, is(api.Bytes), is(api.Bool))
	var all []keyed
	for _, p := range samples()[api.Bytes] {
		q := tuplePart(p, boolPart(true))
		if _, err := pack.Encode(x, s, must(t, q)); err == nil {
			all = append(all, keyOf(t, x, s, q))
		}
	}
	if len(all) == 0 || len(all) == len(samples()[api.Bytes]) {
		t.Fatalf("%d of %d have a key", len(all), len(samples()[api.Bytes]))
	}
	for _, p := range samples()[api.Bytes] { // also of bounds that have no key themselves
		for _, b := range makes(p) {
			wantJust(t, x, s, bounds(tuplePart(), b), all)
		}
		wantJust(t, x, s, prefix(p), all)
		wantJust(t, x, s, starts(tuplePart(), p.Raw), all)
	}
}

// TestApart is P16.6: the spans of two beginnings of one length that are not the same have no key in common; one that goes on lies within the one that it goes on from.
func TestApart(t *testing.T) {
	x := odd(t)
	r := rand.New(rand.NewSource(166))
	apart := 0
	for range 200 {
		s := anySchema(r, 1+r.Intn(4))
		p := anyTuple(r, s)
		for range 10 {
			q := nearTuple(r, s, p)
			for n := range len(s.Fields) + 1 {
				one, two := tuplePart(p.Items[:n]...), tuplePart(q.Items[:n]...)
				a, _ := check(t, x, s, prefix(one.Items...))
				b, _ := check(t, x, s, prefix(two.Items...))
				same := value.Same(must(t, one), must(t, two))
				if same != (a == b) || same == span.Empty(span.Meet(a, b)) || span.Empty(a) || span.Empty(b) {
					t.Fatalf("%s; %s, %s: %s, %s", brief(s), brief(one), brief(two), hexes(a), hexes(b))
				}
				if !same {
					apart++
				}
				if n > 0 {
					wide, _ := check(t, x, s, prefix(p.Items[:n-1]...))
					if span.Meet(wide, a) != a {
						t.Fatalf("%s; %s: %s is not within %s", brief(s), brief(one), hexes(a), hexes(wide))
					}
				}
			}
			p = q
		}
	}
	if apart < 1000 {
		t.Errorf("%d only are apart", apart)
	}
}

// TestBoundsMeet is P16.2 and P16.6: the span of several bounds is what those of each have in common.
func TestBoundsMeet(t *testing.T) {
	x := odd(t)
	r := rand.New(rand.NewSource(167))
	for range 2000 {
		s := anySchema(r, 1+r.Intn(3))
		n := r.Intn(len(s.Fields))
		ahead := tuplePart(anyTuple(r, s).Items[:n]...)
		l := anyBounds(r, s.Fields[n])
		want, _ := check(t, x, s, prefix(ahead.Items...))
		for _, b := range l {
			one, _ := check(t, x, s, bounds(ahead, b))
			want = span.Meet(want, one)
		}
		if got, _ := check(t, x, s, bounds(ahead, l...)); got != want {
			t.Fatalf("%s; %s: %s, not %s", brief(s), brief(l), hexes(got), hexes(want))
		}
	}
}
