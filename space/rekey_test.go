package space_test

import (
	"strconv"
	"strings"
	"testing"

	"dovetail/api"
)

// movedBoth has p with rows, q without, and r, which is as q, with one.
func movedBoth(t testing.TB) both {
	t.Helper()
	b := madeBoth(t)
	must(t, b.define("q", qText))
	must(t, b.define("r", qText))
	must(t, b.put("r", part(t, "(x78 'z' 1)"), "there"))
	return b
}

// qSources make tuples of q of those of p.
func qSources(t testing.TB) []api.Source {
	return []api.Source{{Field: 1}, own(part(t, "'z'")), {Field: 0}}
}

// TestRekey is P20.7: from has none of the rows any more, to has all of them by their new keys, with what was kept, and its own.
func TestRekey(t *testing.T) {
	b := movedBoth(t)
	must(t, b.rekey("p", "q", qSources(t)))
	b.check()
	wantScan(t, b, "p", api.Query{}, "")
	wantScan(t, b, "q", api.Query{}, "(x 'z' 2)=3 (x78 'z' 1)=1 (x79 'z' 1)=2")
	must(t, b.put("p", part(t, "(7 x)"), "4"))
	must(t, b.rekey("p", "q", qSources(t)))
	wantScan(t, b, "q", api.Query{}, "(x 'z' 2)=3 (x 'z' 7)=4 (x78 'z' 1)=1 (x79 'z' 1)=2")
	must(t, b.rekey("q", "p", from(2, 0)))
	wantScan(t, b, "p", api.Query{}, "(1 x79)=2 (1 x78)=1 (2 x)=3 (7 x)=4")
	wantScan(t, b, "q", api.Query{}, "")
	wantScan(t, b, "r", api.Query{}, "(x78 'z' 1)=there")
	b.check()
}

// TestRekeyNone is P20.7: without rows there is none that could be refused, whatever the sources are.
func TestRekeyNone(t *testing.T) {
	b := movedBoth(t)
	for _, l := range [][]api.Source{nil, from(9), {own(api.Part{Kind: 9})}, make([]api.Source, 2000)} {
		must(t, b.rekey("q", "p", l))
		must(t, b.rekey("q", "r", l))
		must(t, b.rekey("q", "q", l))
		b.check()
	}
}

// TestRekeySame is P20.7: to itself; the old keys, which new ones may be, are no hindrance.
func TestRekeySame(t *testing.T) {
	b := madeBoth(t)
	must(t, b.rekey("p", "p", from(0, 1)))
	b.check()
	wantScan(t, b, "p", api.Query{}, "(1 x79)=2 (1 x78)=1 (2 x)=3")

	must(t, b.define("s", "limit 64\nfield a int\nfield b int down\n"))
	for i, x := range []string{"(1 2)", "(2 1)", "(3 3)", "(2 5)"} {
		must(t, b.put("s", part(t, x), strconv.Itoa(i)))
	}
	wantScan(t, b, "s", api.Query{}, "(1 2)=0 (2 5)=3 (2 1)=1 (3 3)=2")
	must(t, b.rekey("s", "s", from(1, 0)))
	b.check()
	wantScan(t, b, "s", api.Query{}, "(1 2)=1 (2 1)=0 (3 3)=2 (5 2)=3")
	must(t, b.rekey("s", "s", []api.Source{{Field: 0}, own(part(t, "0"))}))
	wantScan(t, b, "s", api.Query{}, "(1 0)=1 (2 0)=0 (3 0)=2 (5 0)=3")
	want(t, b.rekey("s", "s", []api.Source{own(part(t, "1")), {Field: 1}}), faultAt(api.ErrSpaceTwice, 1))
	b.check()
}

// TestRekeyNames is P20.7: a name that is not there, from ahead of to, ahead of all else; both alike.
func TestRekeyNames(t *testing.T) {
	b := movedBoth(t)
	for _, l := range [][]api.Source{nil, qSources(t), from(9), make([]api.Source, 1025)} {
		for _, none := range append(wrongNames(), "x", "pp") {
			want(t, b.rekey(none, "q", l), fault(api.ErrSpaceName))
			want(t, b.rekey("p", none, l), fault(api.ErrSpaceName))
			want(t, b.rekey(none, none, l), fault(api.ErrSpaceName))
		}
	}
}

// TestRekeyKeep is P20.7: the first row, by rising keys, whose key rekey.Key refuses: At its number, Why what is told of it.
func TestRekeyKeep(t *testing.T) {
	b := movedBoth(t)
	keep := func(at int, why error) *api.Fault {
		return &api.Fault{Code: api.ErrSpaceKeep, At: at, Why: why}
	}
	mapped := func(e error, at int) *api.Fault { return &api.Fault{Code: api.ErrRekeyMap, At: at, Why: e} }
	for _, c := range []struct {
		l   []api.Source
		bad *api.Fault
	}{
		{nil, keep(0, fault(api.ErrFitCount))},
		{from(1, 0), keep(0, fault(api.ErrFitCount))},
		{from(0, 1, 0), keep(0, otherKind(0))},
		{from(1, 2, 0), keep(0, faultAt(api.ErrRekeyMap, 1))},
		{make([]api.Source, 1025), keep(0, faultAt(api.ErrRekeyMap, 1024))},
		{[]api.Source{{Field: 1}, own(api.Part{Kind: 9}), {Field: 0}}, keep(0, mapped(api.ErrValueForm, 1))},
		{[]api.Source{{Field: 1}, {Field: 0}, own(nested(16, api.Part{}))}, keep(0, mapped(api.ErrValueDeep, 2))},
		{[]api.Source{{Field: 1}, own(api.Part{}), {Field: 0}}, keep(0, faultIn(api.ErrFitNull, 1))},
		{[]api.Source{{Field: 1}, own(part(t, "'abcd'")), {Field: 0}}, keep(0, faultIn(api.ErrFitLong, 1))},
		{[]api.Source{{Field: 1}, own(part(t, `'\xff'`)), {Field: 0}}, keep(0, &api.Fault{Code: api.ErrFitUtf, Path: []int{1}, Why: api.ErrUtfForm})},
	} {
		want(t, b.rekey("p", "q", c.l), c.bad)
		want(t, b.rekey("p", "r", c.l), c.bad)
	}
	// one that only a later row has
	must(t, b.define("s", "limit 11\nfield a int from -9 to 1\nfield b bytes most 1\n"))
	want(t, b.rekey("p", "s", from(0, 1)), keep(2, faultIn(api.ErrFitRange, 0)))
	must(t, b.put("p", part(t, "(1 x7878)"), ""))
	want(t, b.rekey("p", "s", from(0, 1)), keep(1, faultIn(api.ErrFitLong, 1)))
	must(t, b.put("p", part(t, "(-300 x)"), ""))
	want(t, b.rekey("p", "s", from(0, 1)), keep(0, faultIn(api.ErrFitRange, 0)))
	must(t, b.evolve("s", "limit 7\nfield a int\nfield b bytes most 8\n"))
	want(t, b.rekey("p", "s", from(0, 1)), keep(2, fault(api.ErrPackLong)))
	must(t, b.evolve("s", "limit 8\nfield a int\nfield b bytes most 8\n"))
	must(t, b.rekey("p", "s", from(0, 1)))
	b.check()
}

// TestRekeyTwice is P20.7: the first row whose new key a row ahead of it has, or one that was in to; and which comes first of that and of a key that is refused.
func TestRekeyTwice(t *testing.T) {
	b := movedBoth(t)
	five := []api.Source{{Field: 1}, own(part(t, "'z'")), own(part(t, "5"))}
	want(t, b.rekey("p", "r", qSources(t)), faultAt(api.ErrSpaceTwice, 1)) // (1 x78) is the second one of p
	if is, err := b.remove("r", part(t, "(x78 'z' 1)")); !is || err != nil {
		t.Fatal(told(err))
	}
	must(t, b.put("r", part(t, "(x 'z' 2)"), ""))
	want(t, b.rekey("p", "r", qSources(t)), faultAt(api.ErrSpaceTwice, 2))
	must(t, b.put("r", part(t, "(x79 'z' 1)"), ""))
	want(t, b.rekey("p", "r", qSources(t)), faultAt(api.ErrSpaceTwice, 0))
	must(t, b.put("p", part(t, "(4 x78)"), ""))
	want(t, b.rekey("p", "q", five), faultAt(api.ErrSpaceTwice, 3))
	want(t, b.rekey("p", "p", []api.Source{{Field: 0}, own(part(t, "x"))}), faultAt(api.ErrSpaceTwice, 1))
	// refused ahead of one that is there, and behind it
	must(t, b.define("s", "limit 64\nfield a int from 0 to 3\n"))
	want(t, b.rekey("p", "s", from(0)), faultAt(api.ErrSpaceTwice, 1))
	must(t, b.put("p", part(t, "(-1 x)"), ""))
	want(t, b.rekey("p", "s", from(0)), &api.Fault{Code: api.ErrSpaceKeep, Why: faultIn(api.ErrFitRange, 0)})
	b.check()
}

// TestRekeyTexts is P20.7: texts are weighed anew, by the tables that there are and the new field's collation.
func TestRekeyTexts(t *testing.T) {
	b := newBoth(t)
	must(t, b.tables(acute, falling))
	must(t, b.define("t", "limit 64\nfield t text strength 1\n"))
	must(t, b.define("u", "limit 64\nfield n bool\nfield u text down strength 2 back\n"))
	for _, x := range []string{"a", "b", "ab", `a\xcc\x81`, `\xc3\xa1`} {
		must(t, b.put("t", part(t, `("`+x+`")`), x))
	}
	must(t, b.rekey("t", "u", []api.Source{own(part(t, "yes")), {Field: 0}}))
	b.check()
	wantScan(t, b, "u", api.Query{}, `(yes "ab")=ab (yes "\xc3\xa1")=\xc3\xa1 (yes "a\xcc\x81")=a\xcc\x81 (yes "a")=a (yes "b")=b`)
	want(t, b.tables(acute, rising), fault(api.ErrSpaceKeep))
	must(t, b.rekey("u", "t", from(1)))
	b.check()
}

// TestRekeyMany is P20.7: very many rows, whose keys turn round; and one that stops them all.
func TestRekeyMany(t *testing.T) {
	b := newBoth(t)
	const n = 500
	must(t, b.define("p", "limit 64\nfield a int\nfield b int down\n"))
	must(t, b.define("q", "limit 64\nfield b int from 0 to 999\nfield a int down\n"))
	for i := range n {
		must(t, b.put("p", part(t, "("+strconv.Itoa(i*7%n)+" "+strconv.Itoa(i)+")"), strings.Repeat("v", i%5)))
	}
	must(t, b.put("p", part(t, "(499 1000)"), "last but one"))
	want(t, b.rekey("p", "q", from(1, 0)), &api.Fault{Code: api.ErrSpaceKeep, At: n - 1, Why: faultIn(api.ErrFitRange, 0)})
	if is, err := b.remove("p", part(t, "(499 1000)")); !is || err != nil {
		t.Fatal(told(err))
	}
	must(t, b.rekey("p", "q", from(1, 0)))
	b.check()
	must(t, b.put("p", part(t, "(499 "+strconv.Itoa(n-1)+")"), ""))
	must(t, b.rekey("q", "p", []api.Source{{Field: 1}, own(part(t, "7"))}))
	b.check()
}

// TestRekeyHandedIn is R2: the sources are neither written into nor kept.
func TestRekeyHandedIn(t *testing.T) {
	b := movedBoth(t)
	items := make([]api.Part, 1, 4)
	items[0] = api.Part{Kind: api.Bytes, Raw: "a"}
	l := make([]api.Source, 3, 8)
	copy(l, []api.Source{{Field: 1}, own(part(t, "'z'")), {Field: 0}})
	must(t, b.define("u", "limit 64\nfield b bytes most 8\nfield n name most 3\nfield a int\nfield t tuple\nfield x bytes most 1\nend\n"))
	l = append(l, own(api.Part{Kind: api.Tuple, Items: items}))
	must(t, b.rekey("p", "u", l))
	if l[0].Field != 1 || l[3].Part.Items[0].Raw != "a" || l[:5][4].Field != 0 || items[:2][1].Kind != 0 {
		t.Errorf("%s", brief(l))
	}
	items[0].Raw = "b"
	l[3].Part.Items[0].Kind = api.Bool
	l[1].Part.Raw = "y"
	wantScan(t, b, "u", api.Query{}, "(x 'z' 2 (x61))=3 (x78 'z' 1 (x61))=1 (x79 'z' 1 (x61))=2")
}
