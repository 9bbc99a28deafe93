package rekey_test

import (
	"math/rand"
	"slices"
	"testing"

	"dovetail/api"
	"dovetail/compat"
	"dovetail/rekey"
	"dovetail/value"
)

// TestSame is P18.3: the sources 0, 1, 2 and so on make the same tuple, and, with the schema itself as the other one, the same key.
func TestSame(t *testing.T) {
	x := odd(t)
	s, p, _ := everyKind()
	wantMap(t, all(len(p.Items)), p, p)
	wantKey(t, x, s, s, all(len(s.Fields)), keyOf(t, x, s, p), keyOf(t, x, s, p))
	for _, p := range []api.Part{tuplePart(), tuplePart(null()), nested(16, null()), tuplePart(make([]api.Part, 1024)...)} {
		wantMap(t, all(len(p.Items)), p, p)
	}
	wide := many(64)
	flags := tuplePart(slices.Repeat([]api.Part{boolPart(true)}, 64)...)
	wantKey(t, x, wide, wide, all(64), keyOf(t, x, wide, flags), keyOf(t, x, wide, flags))
	r := rand.New(rand.NewSource(184))
	for range 3000 {
		s := anySchema(r, 1+r.Intn(4))
		p := anyTuple(r, s)
		wantMap(t, all(len(s.Fields)), p, p)
		v := must(t, p)
		if made, err := rekey.Map(all(len(s.Fields)), v); err != nil || !value.Same(made, v) {
			t.Fatalf("%s: %s", brief(p), told(err))
		}
		key := keyOf(t, x, s, p)
		wantKey(t, x, s, s, all(len(s.Fields)), key, key)
		tight := api.Schema{Limit: len(key), Fields: s.Fields}
		wantKey(t, x, tight, tight, all(len(s.Fields)), key, key)
		// one source fewer, and one more, are another matter
		wantNoKey(t, x, s, s, all(len(s.Fields)-1), key, &api.Fault{Code: api.ErrFitCount})
		wantNoKey(t, x, s, s, all(len(s.Fields)+1), key, wrong(len(s.Fields)))
	}
}

// throughBoth are the sources that l and, behind it, m make; false: m asks for an item that l does not make.
func throughBoth(l, m []api.Source) ([]api.Source, bool) {
	var out []api.Source
	for _, s := range m {
		switch {
		case s.Field < 0:
			out = append(out, s)
		case s.Field < len(l):
			out = append(out, l[s.Field])
		default:
			return nil, false
		}
	}
	return out, true
}

// TestTwo is P18.3: two mappings, one behind the other, are one.
func TestTwo(t *testing.T) {
	r := rand.New(rand.NewSource(185))
	one, refused := 0, 0
	for range 20000 {
		p := anyTuple(r, anySchema(r, 1+r.Intn(3)))
		l := anySources(r, len(p.Items), 1+r.Intn(6))
		m := anySources(r, len(l), r.Intn(6))
		first, err := rekey.Map(l, must(t, p))
		if err != nil {
			continue
		}
		second, err := rekey.Map(m, first)
		both, is := throughBoth(l, m)
		if err != nil {
			refused++
			if _, bad := plainMap(both, p); is && bad == nil {
				t.Fatalf("%s, %s of %s: %s", brief(l), brief(m), brief(p), told(err))
			}
			continue
		}
		one++
		made, bad := rekey.Map(both, must(t, p))
		if !is || bad != nil || !value.Same(made, second) || !sameParts(value.Tell(made), value.Tell(second)) {
			t.Fatalf("%s, %s of %s: %s; at once %s, %s", brief(l), brief(m), brief(p), brief(value.Tell(second)), brief(value.Tell(made)), told(bad))
		}
	}
	if one < 2000 || refused < 200 {
		t.Errorf("%d made, %d refused", one, refused)
	}
}

// TestTwoOrders is P18.3: of a few items, all ways to take three of them, and all ways to take three of these.
func TestTwoOrders(t *testing.T) {
	p := tuplePart(intPart(10), null(), tuplePart(namePart("a")))
	ways := threes(3)
	for _, l := range ways {
		first, err := rekey.Map(from(l...), must(t, p))
		if err != nil {
			t.Fatal(told(err))
		}
		for _, m := range ways {
			second, err := rekey.Map(from(m...), first)
			want := tuplePart(p.Items[l[m[0]]], p.Items[l[m[1]]], p.Items[l[m[2]]])
			if err != nil || !sameParts(value.Tell(second), want) {
				t.Fatalf("%v, %v: %s, %s", l, m, brief(value.Tell(second)), told(err))
			}
			wantMap(t, from(l[m[0]], l[m[1]], l[m[2]]), p, want)
		}
	}
}

// threes are all rows of three places of n.
func threes(n int) [][]int {
	var l [][]int
	for a := range n {
		for b := range n {
			for c := range n {
				l = append(l, []int{a, b, c})
			}
		}
	}
	return l
}

// TestTwoKeys is P18.3 by keys: a key made over twice is the key made over at once; and made over back it is the key that it was.
func TestTwoKeys(t *testing.T) {
	x := odd(t)
	r := rand.New(rand.NewSource(186))
	made := 0
	for range 2000 {
		s := anySchema(r, 1+r.Intn(3))
		key := keyOf(t, x, s, anyTuple(r, s))
		to, l := madeOver(r, s)
		last, m := madeOver(r, to)
		first, err := rekey.Key(x, s, to, l, key)
		if err != nil {
			continue
		}
		second, err := rekey.Key(x, to, last, m, first)
		if err != nil {
			continue
		}
		made++
		both, is := throughBoth(l, m)
		if !is {
			t.Fatalf("%s, %s", brief(l), brief(m))
		}
		wantKey(t, x, s, last, both, key, second)
	}
	if made < 500 {
		t.Errorf("%d keys", made)
	}
	s, p, _ := everyKind()
	key := keyOf(t, x, s, p)
	for range 200 {
		row := r.Perm(len(s.Fields))
		to, back := api.Schema{Limit: 65536}, make([]int, len(row))
		for i, n := range row {
			to.Fields = append(to.Fields, s.Fields[n])
			back[n] = i
		}
		there, _ := checkKey(t, x, s, to, from(row...), key)
		wantKey(t, x, to, s, from(back...), there, key)
	}
}

// TestBorne is T5, with P17.3: by a schema that bears another one's keys, the sources 0, 1, 2 and so on make each of these over to itself; a witness's key they do not.
func TestBorne(t *testing.T) {
	x := odd(t)
	r := rand.New(rand.NewSource(187))
	fits, not := 0, 0
	for range 3000 {
		s := anySchema(r, 1+r.Intn(3))
		to := nearSchema(r, s, 2)
		said, err := compat.Check(s, to)
		if err != nil {
			t.Fatal(told(err))
		}
		if said.Fits {
			fits++
			for range 3 {
				key := keyOf(t, x, s, anyTuple(r, s))
				wantKey(t, x, s, to, all(len(s.Fields)), key, key)
			}
			continue
		}
		not++
		key := keyOf(t, x, s, said.Witness)
		if over, err := checkKey(t, x, s, to, all(len(s.Fields)), key); err == nil && over == key {
			t.Fatalf("%s; %s: %s is made over to itself", brief(s), brief(to), brief(said.Witness))
		}
	}
	if fits < 300 || not < 300 {
		t.Errorf("%d fit, %d do not", fits, not)
	}
}
