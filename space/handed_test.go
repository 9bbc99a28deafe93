package space_test

import (
	"reflect"
	"testing"

	"dovetail/api"
	"dovetail/space"
)

// TestNil is R2: of a nil space each call that can tell an error tells ErrNil, whatever it is handed; any other tells nothing.
func TestNil(t *testing.T) {
	var s *space.Space
	none := fault(api.ErrNil)
	row := part(t, "(1 x)")
	for _, name := range []string{"", "p", "P"} {
		want(t, s.Tables("", ""), none)
		want(t, s.Tables("x", "x"), none)
		want(t, s.Define(name, pText), none)
		want(t, s.Define(name, ""), none)
		want(t, s.Evolve(name, pText), none)
		want(t, s.Evolve(name, ""), none)
		want(t, s.Rekey(name, name, nil), none)
		want(t, s.Put(name, row, ""), none)
		want(t, s.Put(name, api.Part{Kind: 9}, string(make([]byte, 65537))), none)
		want(t, s.Import(name, "", ""), none)
		kept, is, err := s.Get(name, row)
		want(t, err, none)
		was, err := s.Delete(name, row)
		want(t, err, none)
		rows, err := s.Scan(name, api.Query{Starts: true, Bounds: make([]api.Bound, 1)})
		want(t, err, none)
		x, err := s.Schema(name)
		want(t, err, none)
		n, err := s.Len(name)
		want(t, err, none)
		pairs, err := s.Pairs(name)
		want(t, err, none)
		if kept != "" || is || was || rows != nil || !reflect.DeepEqual(x, api.Schema{}) || n != 0 || pairs != nil {
			t.Errorf("%q, %v, %v, %s, %s, %d, %q", kept, is, was, rowsOf(rows), brief(x), n, pairs)
		}
	}
	if marks, entries := s.Texts(); marks != "" || entries != "" || len(s.Names()) != 0 || s.Clone() != nil {
		t.Errorf("%q, %q, %q, %v", marks, entries, s.Names(), s.Clone())
	}
}

// TestHandedIn is R2: parts and queries are neither written into, nor their spare room, nor kept.
func TestHandedIn(t *testing.T) {
	b := newBoth(t)
	must(t, b.define("t", "limit 64\nfield a int\nfield t tuple\nfield b bytes most 8\nend\n"))
	spare := api.Part{Kind: api.Name, Raw: "spare"}
	roomy := func(l ...api.Part) []api.Part { return append(append(make([]api.Part, 0, 8), l...), spare)[:len(l)] }
	within := roomy(part(t, "x61"))
	items := roomy(part(t, "1"), api.Part{Kind: api.Tuple, Items: within})
	p := api.Part{Kind: api.Tuple, Items: items}
	want := part(t, "(1 (x61))")
	left := func(call string) {
		t.Helper()
		if !sameParts(p, want) || !sameParts(items[:3][2], spare) || !sameParts(within[:2][1], spare) {
			t.Errorf("%s: %s", call, brief(p))
		}
	}
	must(t, b.s.Put("t", p, "kept"))
	left("Put")
	if _, is, err := b.s.Get("t", p); !is || err != nil {
		t.Error(told(err))
	}
	left("Get")
	bounds := append(make([]api.Bound, 0, 4), above(true, items[1]), above(true, spare))[:1]
	if l, err := b.s.Scan("t", api.Query{Prefix: api.Part{Kind: api.Tuple, Items: items[:1]}, Bounds: bounds}); rowsOf(l) != "(1 (x61))=kept" || err != nil {
		t.Error(rowsOf(l), told(err))
	}
	left("Scan")
	if !sameParts(bounds[:2][1].Part, spare) || !bounds[0].Above {
		t.Errorf("%s", brief(bounds))
	}
	within[0].Raw = "b"
	items[0] = api.Part{Kind: api.Bool}
	if l, err := b.s.Scan("t", api.Query{}); rowsOf(l) != "(1 (x61))=kept" || err != nil {
		t.Error(rowsOf(l), told(err))
	}
	if is, err := b.s.Delete("t", want); !is || err != nil {
		t.Error(told(err))
	}
}

// TestFaultsNew is R2: a Fault is another one each time, with all that it holds.
func TestFaultsNew(t *testing.T) {
	b := movedBoth(t)
	must(t, b.define("t", "limit 64\nfield t text strength 1\n"))
	must(t, b.put("t", part(t, `("a")`), ""))
	s := b.s
	wrong := api.Part{Kind: 9}
	for i, call := range []func() error{
		func() error { return s.Tables("x", "") },
		func() error { return s.Tables("", "x") },
		func() error { return s.Tables(acute, "") },
		func() error { return s.Define("P", "") },
		func() error { return s.Define("p", "") },
		func() error { return s.Define("new", "limit 9\nfield A bool\n") },
		func() error { return s.Evolve("new", "") },
		func() error { return s.Evolve("p", "limit 9\nfield A bool\n") },
		func() error { return s.Evolve("p", qText) },
		func() error { return s.Rekey("p", "new", nil) },
		func() error { return s.Rekey("p", "q", from(0, 1, 0)) },
		func() error { return s.Rekey("p", "q", []api.Source{own(wrong)}) },
		func() error { return s.Rekey("p", "r", qSources(t)) },
		func() error { return s.Put("new", wrong, "") },
		func() error { return s.Put("p", wrong, "") },
		func() error { return s.Put("p", wrong, string(make([]byte, 65537))) },
		func() error { return s.Put("p", part(t, "(1 no)"), "") },
		func() error { _, _, err := s.Get("p", part(t, "(1 no)")); return err },
		func() error { _, err := s.Delete("p", part(t, "(1 no)")); return err },
		func() error { return s.Import("p", "\x12\x80\x23", "") },
		func() error { return s.Import("p", "\x12\x80\x23\xff\xff", "") },
		func() error { _, err := s.Scan("p", api.Query{Starts: true}); return err },
		func() error { _, err := s.Scan("p", api.Query{Starts: true, Bounds: make([]api.Bound, 1)}); return err },
		func() error { _, err := s.Scan("p", api.Query{Prefix: wrong}); return err },
		func() error { _, err := s.Scan("p", api.Query{Prefix: part(t, "(no)")}); return err },
		func() error { _, err := s.Schema("new"); return err },
		func() error { _, err := s.Len("new"); return err },
		func() error { _, err := s.Pairs("new"); return err },
		func() error { return (*space.Space)(nil).Tables("", "") },
	} {
		one, two := call(), call()
		if one == nil || !sameError(one, two) {
			t.Errorf("%d: %s, %s", i, told(one), told(two))
		}
		isFault(t, one)
		again := told(two)
		spoil(one)
		if told(two) != again || told(call()) != again {
			t.Errorf("%d: %s, not %s", i, told(two), again)
		}
	}
	b.check()
}

// spoil writes into all that a Fault holds.
func spoil(err error) {
	f, is := err.(*api.Fault)
	if !is || f == nil {
		return
	}
	spoil(f.Why)
	for i := range f.Path {
		f.Path[i] = -7
	}
	*f = api.Fault{Code: -7, At: -7}
}
