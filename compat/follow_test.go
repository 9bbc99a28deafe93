package compat_test

import (
	"math/rand"
	"reflect"
	"slices"
	"testing"

	"dovetail/api"
	"dovetail/compat"
	"dovetail/pack"
	"dovetail/value"
	"dovetail/weigh"
)

// keysOf are keys of some tuples of a schema that come about: some at all, and some as short as they can be, but in few places.
func keysOf(t testing.TB, r *rand.Rand, x *weigh.Tables, s api.Schema) map[string]api.Part {
	t.Helper()
	out := map[string]api.Part{}
	top := api.Field{Kind: api.Tuple, Fields: s.Fields}
	for i := range 12 {
		p := anyPart(r, top)
		if i%2 == 0 {
			p = shortPart(r, top)
		}
		if key, err := pack.Encode(x, s, must(t, p)); err == nil {
			out[key] = p
		} else if isFault(t, err).Code != api.ErrPackLong {
			t.Fatalf("%s; %s: %s", brief(s), brief(p), told(err))
		}
	}
	return out
}

// shortPart is a value of a field that is null where it may be, but in few places.
func shortPart(r *rand.Rand, f api.Field) api.Part {
	if f.Nulls != api.NeverNull && r.Intn(6) > 0 {
		return null()
	}
	if f.Kind != api.Tuple {
		f.Nulls = api.NeverNull
		return anyPart(r, f)
	}
	p := api.Part{Kind: api.Tuple}
	for _, g := range f.Fields {
		p.Items = append(p.Items, shortPart(r, g))
	}
	return p
}

// borne tells how many keys of s, as long as both limits let them be, are keys of the other one, with the same tuple; and how many are not.
func borne(t testing.TB, x *weigh.Tables, s, to api.Schema, keys map[string]api.Part) (yes, no int) {
	t.Helper()
	for key, p := range keys {
		if len(key) > to.Limit {
			continue
		}
		v, err := pack.Decode(x, to, key)
		if err == nil && value.Same(v, must(t, p)) {
			yes++
		} else {
			no++
		}
	}
	return yes, no
}

// TestFollows is P17.3 (T5): over schemas of every shape and those that are near to them, at limits about the shortest keys that show a difference. (That a witness's key is none of the other one's check asks.)
func TestFollows(t *testing.T) {
	r := rand.New(rand.NewSource(173))
	seen := map[string]int{}
	same, other := 0, 0
	for range 1200 {
		deep := 1 + r.Intn(3)
		s := anySchema(r, deep)
		to := nearSchema(r, s, deep)
		limits := []int{1 + r.Intn(60), api.MaxKey}
		for i, n := range plainSizes(s, to) {
			if i < 2 && n <= api.MaxKey {
				limits = append(limits, max(1, n-1), n)
			}
		}
		for _, limit := range limits {
			s.Limit = limit
			to.Limit = min(api.MaxKey, max(1, limit+r.Intn(7)-3))
			got := check(t, s, to)
			seen[got]++
			for _, x := range tables(t) {
				keys := keysOf(t, r, x, s)
				yes, no := borne(t, x, s, to, keys)
				same, other = same+yes, other+no
				if got != against && no > 0 {
					t.Fatalf("%s; %s: %s, but %d keys are none of the other one's", brief(s), brief(to), got, no)
				}
				if got == fits && yes < len(keys) {
					t.Fatalf("%s; %s: %d of %d keys", brief(s), brief(to), yes, len(keys))
				}
			}
		}
	}
	if seen[fits] < 500 || seen[short] < 500 || seen[against] < 500 || same < 10000 || other < 10000 {
		t.Errorf("%v; %d keys are borne, %d not", seen, same, other)
	}
}

// TestShown is P17.2 the other way round: each tuple in which a difference shows has a key that is no shorter than the words say, and the other one refuses it; each in which none shows has the same key by both.
func TestShown(t *testing.T) {
	r := rand.New(rand.NewSource(172))
	x := odd(t)
	shown, not := 0, 0
	for range 3000 {
		deep := 1 + r.Intn(3)
		s := anySchema(r, deep)
		to := nearSchema(r, s, deep)
		diffs := plainDiffs(s, to)
		for key, p := range keysOf(t, r, x, s) {
			one := slices.IndexFunc(diffs, func(d plainDiff) bool { return d.shows(p) })
			v, err := pack.Decode(x, to, key)
			if one < 0 && (err != nil || !value.Same(v, must(t, p))) {
				t.Fatalf("%s; %s: in %s nothing shows, but it is refused", brief(s), brief(to), brief(p))
			}
			if one >= 0 && (err == nil || len(key) < plainKeySize(s.Fields, diffs[one].path, diffs[one])) {
				t.Fatalf("%s; %s: in %s shows %s; %s, %s", brief(s), brief(to), brief(p), brief(diffs[one]), hex(key), told(err))
			}
			if one < 0 {
				not++
			} else {
				shown++
			}
		}
	}
	if shown < 3000 || not < 3000 {
		t.Errorf("%d, %d", shown, not)
	}
}

// TestSelf is P17.3: a schema bears itself, whatever it is, also where it has no key.
func TestSelf(t *testing.T) {
	r := rand.New(rand.NewSource(170))
	for range 2000 {
		s := anySchema(r, 1+r.Intn(4))
		for _, limit := range []int{1, 1 + r.Intn(40), api.MaxKey} {
			s.Limit = limit
			wantVerdict(t, s, s, fits)
			wantVerdict(t, s, api.Schema{Limit: limit, Fields: renamed(s.Fields)}, fits)
		}
	}
	for _, p := range pairs() {
		wantNone(t, schemaOf(1, p.f), schemaOf(1, p.f))
		wantNone(t, schemaOf(1, p.g), schemaOf(1, p.g))
	}
}

// TestThird is P17.3: if the first schema's keys are borne by the second one, and its by a third one, that bears the first one's.
func TestThird(t *testing.T) {
	r := rand.New(rand.NewSource(171))
	found, far := 0, 0
	for range 60000 {
		deep := 1 + r.Intn(2)
		a := anySchema(r, deep)
		b := nearSchema(r, a, deep)
		c := nearSchema(r, b, deep)
		a.Limit = 1 + r.Intn(30)
		b.Limit = a.Limit + r.Intn(3)
		c.Limit = b.Limit + r.Intn(3)
		one, _ := compat.Check(a, b)
		two, _ := compat.Check(b, c)
		if !one.Fits || !two.Fits {
			continue
		}
		found++
		if len(plainDiffs(a, c)) > 0 {
			far++
		}
		if three, err := compat.Check(a, c); err != nil || !reflect.DeepEqual(three, api.Verdict{Fits: true}) {
			t.Fatalf("%s; %s; %s: %s, %s", brief(a), brief(b), brief(c), brief(three), told(err))
		}
	}
	if found < 1000 || far < 300 {
		t.Errorf("%d, %d", found, far)
	}
}

// TestNoKey is P17.1: a schema that has no key within its limit is borne by any other one, but for the limits.
func TestNoKey(t *testing.T) {
	for k := api.Bool; k <= api.Tuple; k++ {
		s := schemaOf(sizes()[k]-1, is(k))
		for other := api.Bool; other <= api.Tuple; other++ {
			for _, limit := range []int{1, s.Limit, s.Limit + 1, api.MaxKey} {
				for _, to := range []api.Schema{schemaOf(limit, is(other)), schemaOf(limit, down(is(other))), schemaOf(limit, is(other), is(k)), schemaOf(limit, nulls(api.NullLast, is(other)))} {
					want := fits
					if limit < s.Limit {
						want = short
					}
					wantVerdict(t, s, to, want)
				}
			}
		}
		s.Limit++
		wantVerdict(t, s, schemaOf(1, is(k), is(k)), against)
	}
	wantVerdict(t, schemaOf(1, tupleOf(nulls(api.NullFirst, is(api.Bool)))), schemaOf(1, is(api.Bool)), fits)
	wantVerdict(t, schemaOf(2, tupleOf(nulls(api.NullFirst, is(api.Bool)))), schemaOf(1, is(api.Bool)), short)
	wantVerdict(t, schemaOf(3, tupleOf(nulls(api.NullFirst, is(api.Bool)))), schemaOf(1, is(api.Bool)), against)
}

// TestAny is P17.1 and P17.2: schemas that have nothing to do with one another, and those that are near to one another, held against the words at all limits about the shortest keys.
func TestAny(t *testing.T) {
	r := rand.New(rand.NewSource(175))
	for i := range 4000 {
		deep := 1 + r.Intn(4)
		s := anySchema(r, deep)
		to := anySchema(r, deep)
		if i%4 > 0 {
			to = nearSchema(r, s, deep)
		}
		for _, n := range append(plainSizes(s, to), 1+r.Intn(90)) {
			for _, limit := range []int{n - 1, n, n + 1} {
				if limit >= 1 && limit <= api.MaxKey {
					s.Limit, to.Limit = limit, 1+r.Intn(2*limit)
					to.Limit = min(to.Limit, api.MaxKey)
					check(t, s, to)
				}
			}
		}
	}
}
