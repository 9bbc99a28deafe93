package space_test

import (
	"slices"
	"testing"

	"dovetail/api"
	"dovetail/compat"
	"dovetail/pack"
	"dovetail/value"
)

// TestExamples is the chapter's table, row by row.
func TestExamples(t *testing.T) {
	b := madeBoth(t)
	wantScan(t, b, "p", api.Query{}, "(1 x79)=2 (1 x78)=1 (2 x)=3")
	wantScan(t, b, "p", api.Query{Prefix: part(t, "(1)")}, "(1 x79)=2 (1 x78)=1")
	wantScan(t, b, "p", api.Query{Back: true, Limit: 1}, "(2 x)=3")
	wantScan(t, b, "p", api.Query{Bounds: []api.Bound{above(true, part(t, "2"))}}, "(2 x)=3")
	wantScan(t, b, "p", api.Query{Prefix: part(t, "(1)"), Starts: true, Start: "x"}, "(1 x78)=1")
	want(t, b.put("p", part(t, "(1)"), ""), fault(api.ErrFitCount))
	want(t, b.put("p", part(t, "(1 x000000000000000000)"), ""), faultIn(api.ErrFitLong, 1))
	want(t, b.put("q", part(t, "(1)"), ""), fault(api.ErrSpaceName))
	before, _ := b.s.Pairs("p")
	want(t, b.evolve("p", "limit 64\nfield a int null-first\nfield b bytes down most 8\n"), nil)
	if after, _ := b.s.Pairs("p"); !slices.Equal(before, after) {
		t.Errorf("%q, not %q", after, before)
	}
	want(t, b.evolve("p", "limit 64\nfield a int null-first\nfield b bytes down most 0\n"), fault(api.ErrSpaceKeep))
	want(t, b.rekey("p", "p", []api.Source{{Field: 0}, own(api.Part{Kind: api.Bytes})}), faultAt(api.ErrSpaceTwice, 1))
	want(t, b.importKey("p", "\x12\x80\x23", ""), &api.Fault{Code: api.ErrFieldShort, At: 3, Path: []int{1}, Why: faultAt(api.ErrFieldShort, 1)})
	b.check()
}

// putAll puts tuples in, with nothing kept under them but what stands beside them.
func putAll(t testing.TB, b both, name string, rows ...[2]string) {
	t.Helper()
	for _, r := range rows {
		must(t, b.put(name, part(t, r[0]), r[1]))
	}
}

// TestWhole are DOC.md's examples of the whole, as far as a space tells them.
func TestWhole(t *testing.T) {
	b := newBoth(t) // 1
	must(t, b.define("p", pText))
	putAll(t, b, "p", [2]string{"(1 x78)", "1"}, [2]string{"(1 x79)", "2"}, [2]string{"(-2 x)", "3"})
	wantScan(t, b, "p", api.Query{Prefix: part(t, "()")}, "(-2 x)=3 (1 x79)=2 (1 x78)=1")
	wantScan(t, b, "p", api.Query{Prefix: part(t, "(1)"), Back: true, Limit: 1}, "(1 x78)=1")
	if v, is, err := b.get("p", part(t, "(-2 x)")); v != "3" || !is || err != nil {
		t.Errorf("%q, %v, %s", v, is, told(err))
	}
	if v, is, err := b.get("p", part(t, "(7 x)")); v != "" || is || err != nil {
		t.Errorf("%q, %v, %s", v, is, told(err))
	}

	b = newBoth(t) // 3
	must(t, b.define("t", "limit 64\nfield t tuple down\n  field n bool null-first\n  field v bool\nend\n"))
	putAll(t, b, "t", [2]string{"((null no))"}, [2]string{"((no yes))"}, [2]string{"((no no))"})
	wantScan(t, b, "t", api.Query{}, "((no yes)) ((no no)) ((null no))")

	b = newBoth(t) // 4
	must(t, b.tables("00E1;0;0061 0301\n0301;230;", "0041;[.1000.0020.0008]\n0061;[.1000.0020.0002]\n0062;[.1001.0020.0002]\n0301;[.0000.0024.0002]"))
	must(t, b.define("w", "limit 64\nfield t text strength 2\n"))
	putAll(t, b, "w", [2]string{`("b")`}, [2]string{`("a\xcc\x81")`}, [2]string{`("A")`}, [2]string{`("a")`}, [2]string{`("\xc3\xa1")`})
	wantScan(t, b, "w", api.Query{}, `("A") ("a") ("a\xcc\x81") ("\xc3\xa1") ("b")`)

	b = newBoth(t) // 5
	must(t, b.define("p", pText))
	putAll(t, b, "p", [2]string{"(1 x)", "0"}, [2]string{"(1 x6100)", "1"}, [2]string{"(1 x62)", "2"}, [2]string{"(2 x61)", "3"})
	one := part(t, "(1)")
	wantScan(t, b, "p", api.Query{Bounds: []api.Bound{above(false, part(t, "1"))}}, "(2 x61)=3")
	wantScan(t, b, "p", api.Query{Prefix: one, Bounds: []api.Bound{above(true, part(t, "x62")), below(false, part(t, "x"))}}, "(1 x62)=2 (1 x6100)=1")
	wantScan(t, b, "p", api.Query{Prefix: one, Starts: true, Start: "a"}, "(1 x6100)=1")
	_, err := b.scan("p", api.Query{Starts: true, Start: "a"})
	want(t, err, faultIn(api.ErrSpanKind, 0))
}

// TestWholeSchemas are those of DOC.md's examples that change schemas, move rows and are refused.
func TestWholeSchemas(t *testing.T) {
	b := newBoth(t) // 6
	must(t, b.define("p", "limit 64\nfield a int from 0 to 300\n"))
	must(t, b.define("q", "limit 64\nfield z int null-last\n"))
	p, _ := b.s.Schema("p")
	q, _ := b.s.Schema("q")
	if v, err := compat.Check(p, q); !v.Fits || err != nil {
		t.Error(brief(v), told(err))
	}
	must(t, b.put("p", part(t, "(300)"), ""))
	want(t, b.evolve("p", "limit 64\nfield a int from 0 to 255\n"), fault(api.ErrSpaceKeep))
	must(t, b.evolve("p", "limit 64\nfield a int null-first\n"))
	must(t, b.put("p", part(t, "(null)"), ""))
	wantScan(t, b, "p", api.Query{}, "(null) (300)")

	b = newBoth(t) // 7
	must(t, b.define("p", pText))
	must(t, b.define("q", qText))
	putAll(t, b, "p", [2]string{"(1 x78)", "1"}, [2]string{"(2 x78)", "2"})
	want(t, b.rekey("p", "q", from(1, 0)), &api.Fault{Code: api.ErrSpaceKeep, Why: fault(api.ErrFitCount)})
	want(t, b.rekey("p", "q", []api.Source{{Field: 1}, own(part(t, "'z'")), own(part(t, "5"))}), faultAt(api.ErrSpaceTwice, 1))
	must(t, b.rekey("p", "q", qSources(t)))
	wantScan(t, b, "q", api.Query{}, "(x78 'z' 1)=1 (x78 'z' 2)=2")
	if n, err := b.s.Len("p"); n != 0 || err != nil {
		t.Errorf("%d, %s", n, told(err))
	}

	b = newBoth(t) // 8, 10
	must(t, b.define("p", pText))
	want(t, b.importKey("p", "\x12\x80\x13", ""), &api.Fault{Code: api.ErrFieldTag, At: 2, Path: []int{1}, Why: fault(api.ErrFieldTag)})
	want(t, b.put("p", part(t, "(1 no)"), ""), otherKind(1))
	want(t, b.put("r", part(t, "(1 x)"), ""), fault(api.ErrSpaceName))
	want(t, b.tables("", "0061;[.FB40.0020.0002]"), faultAt(api.ErrTableWeight, 1, 2))
	want(t, b.tables("0041;0;0042\n0042;0;0041", "0061;[.FB40.0020.0002]"), faultAt(api.ErrUcdLoop, 1, 1))
	want(t, b.define("P", "limit 9\nfield a bool\n"), fault(api.ErrSpaceName))
	want(t, b.define("q", "limit 9\nfield a bool\nfield a int\n"), faultAt(api.ErrSchemaTwice, 3, 1))
	want(t, b.define("q", "limit 9\nfield a text strength 4\n"), faultAt(api.ErrSchemaRange, 2, 0))
}

// TestUse: what a space tells is enough to make and to read keys of its schemas beside it.
func TestUse(t *testing.T) {
	b := madeBoth(t)
	s, _ := b.s.Schema("p")
	v, _ := value.Make(part(t, "(1 x78)"))
	key, err := pack.Encode(b.p.tables, s, v)
	pairs, _ := b.s.Pairs("p")
	if err != nil || !slices.Contains(pairs, api.Pair{Key: key, Value: "1"}) {
		t.Errorf("%q, %s", pairs, told(err))
	}
}
