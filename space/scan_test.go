package space_test

import (
	"math"
	"math/rand"
	"slices"
	"strings"
	"testing"

	"dovetail/api"
)

// above and below are bounds.
func above(equal bool, p api.Part) api.Bound { return api.Bound{Above: true, Equal: equal, Part: p} }

func below(equal bool, p api.Part) api.Bound { return api.Bound{Equal: equal, Part: p} }

// scanBoth has the schema p with rows about which bounds and beginnings are laid.
func scanBoth(t testing.TB) both {
	t.Helper()
	b := newBoth(t)
	must(t, b.define("p", pText))
	for _, x := range []string{"(2 x)", "(1 x6100)", "(-2 x61)", "(1 x62)", "(1 x)", "(1 x61)", "(2 x6162)", "(300 xff)"} {
		must(t, b.put("p", part(t, x), ""))
	}
	return b
}

const allRows = "(-2 x61) (1 x62) (1 x6100) (1 x61) (1 x) (2 x6162) (2 x) (300 xff)"

// TestScanPrefix is P20.6: all rows, by null and by the tuple without items; those that begin so; a whole tuple; none.
func TestScanPrefix(t *testing.T) {
	b := scanBoth(t)
	for prefix, want := range map[string]string{
		"null":      allRows,
		"()":        allRows,
		"(1)":       "(1 x62) (1 x6100) (1 x61) (1 x)",
		"(2)":       "(2 x6162) (2 x)",
		"(-2)":      "(-2 x61)",
		"(3)":       "",
		"(0)":       "",
		"(1 x61)":   "(1 x61)",
		"(1 x)":     "(1 x)",
		"(1 x6162)": "",
	} {
		q := api.Query{Prefix: part(t, prefix)}
		wantScan(t, b, "p", q, want)
		q.Start = "what is not asked for says nothing"
		wantScan(t, b, "p", q, want)
		q.Bounds = []api.Bound{}
		wantScan(t, b, "p", q, want)
	}
}

// TestScanBounds is P20.6: on the first field, and on the next one, which falls; one, two that leave something or nothing between them, and the same one twice.
func TestScanBounds(t *testing.T) {
	b := scanBoth(t)
	one, two, a := part(t, "1"), part(t, "2"), part(t, "x61")
	for _, c := range []struct {
		prefix string
		l      []api.Bound
		want   string
	}{
		{"()", []api.Bound{above(true, two)}, "(2 x6162) (2 x) (300 xff)"},
		{"()", []api.Bound{above(false, two)}, "(300 xff)"},
		{"null", []api.Bound{below(false, one)}, "(-2 x61)"},
		{"null", []api.Bound{below(true, one)}, "(-2 x61) (1 x62) (1 x6100) (1 x61) (1 x)"},
		{"()", []api.Bound{above(false, one), below(true, two)}, "(2 x6162) (2 x)"},
		{"()", []api.Bound{above(true, one), below(true, one)}, "(1 x62) (1 x6100) (1 x61) (1 x)"},
		{"()", []api.Bound{above(false, one), below(false, two)}, ""},
		{"()", []api.Bound{above(true, two), below(true, one)}, ""},
		{"()", []api.Bound{above(true, two), above(false, one), above(true, two)}, "(2 x6162) (2 x) (300 xff)"},
		{"(1)", []api.Bound{above(true, a)}, "(1 x61) (1 x)"},
		{"(1)", []api.Bound{above(false, a)}, "(1 x)"},
		{"(1)", []api.Bound{below(false, a)}, "(1 x62) (1 x6100)"},
		{"(1)", []api.Bound{below(true, a)}, "(1 x62) (1 x6100) (1 x61)"},
		{"(3)", []api.Bound{above(true, a)}, ""},
	} {
		wantScan(t, b, "p", api.Query{Prefix: part(t, c.prefix), Bounds: c.l}, c.want)
	}
}

// TestScanNull is P20.6: null as a bound stands where the field has it.
func TestScanNull(t *testing.T) {
	for _, c := range []struct{ word, behind, from string }{
		{"null-first", "(0) (1)", "(null) (0) (1)"},
		{"null-last", "", "(null)"},
		{"down null-first", "(1) (0)", "(null) (1) (0)"},
		{"down null-last", "", "(null)"},
	} {
		b := newBoth(t)
		must(t, b.define("p", "limit 9\nfield a int "+c.word+"\n"))
		for _, x := range []string{"(null)", "(0)", "(1)"} {
			must(t, b.put("p", part(t, x), ""))
		}
		wantScan(t, b, "p", api.Query{Bounds: []api.Bound{above(false, api.Part{})}}, c.behind)
		wantScan(t, b, "p", api.Query{Bounds: []api.Bound{above(true, api.Part{})}}, c.from)
		wantScan(t, b, "p", api.Query{Prefix: part(t, "(null)")}, "(null)")
	}
}

// TestScanStarts is P20.6: bytes and names that begin so, the empty beginning too, and one that ends within a character.
func TestScanStarts(t *testing.T) {
	b := scanBoth(t)
	for start, want := range map[string]string{
		"":                         "(1 x62) (1 x6100) (1 x61) (1 x)",
		"a":                        "(1 x6100) (1 x61)",
		"a\x00":                    "(1 x6100)",
		"a\x00\x00":                "",
		"b":                        "(1 x62)",
		"c":                        "",
		strings.Repeat("a", 70000): "",
	} {
		wantScan(t, b, "p", api.Query{Prefix: part(t, "(1)"), Starts: true, Start: start}, want)
	}
	must(t, b.define("n", "limit 99\nfield n name null-last most 9\nfield a bool\n"))
	for _, x := range []string{`('\xc3\xa1' no)`, `('\xc3\xa9' yes)`, `('a' no)`, `('' no)`, `(null no)`} {
		must(t, b.put("n", part(t, x), ""))
	}
	wantScan(t, b, "n", api.Query{Starts: true, Start: "\xc3"}, `('\xc3\xa1' no) ('\xc3\xa9' yes)`)
	wantScan(t, b, "n", api.Query{Starts: true}, `('' no) ('a' no) ('\xc3\xa1' no) ('\xc3\xa9' yes)`) // null begins with nothing
	wantScan(t, b, "n", api.Query{Prefix: part(t, "()"), Starts: true, Start: "a"}, `('a' no)`)
}

// turned is what rowsOf wrote, the other way round.
func turned(want string) string {
	l := strings.SplitAfter(strings.ReplaceAll(want, ") (", ")|("), "|")
	slices.Reverse(l)
	for i := range l {
		l[i] = strings.TrimSuffix(l[i], "|")
	}
	return strings.Join(l, " ")
}

// TestScanLimit is P20.6: the first Limit rows of those that there are, rising or falling; of a Limit of 0 or below it all.
func TestScanLimit(t *testing.T) {
	b := scanBoth(t)
	for _, q := range []api.Query{
		{},
		{Prefix: part(t, "(1)")},
		{Prefix: part(t, "(7)")},
		{Bounds: []api.Bound{above(true, part(t, "1")), below(true, part(t, "2"))}},
		{Prefix: part(t, "(1)"), Starts: true, Start: "a"},
	} {
		all, err := b.scan("p", q)
		must(t, err)
		for _, n := range []int{math.MinInt, -2, -1, 0, 1, 2, 3, 4, 5, 7, 8, 9, 1000, math.MaxInt} {
			for _, back := range []bool{false, true} {
				q.Limit, q.Back = n, back
				want := slices.Clone(all)
				if back {
					slices.Reverse(want)
				}
				if n > 0 {
					want = want[:min(n, len(want))]
				}
				if l, err := b.scan("p", q); err != nil || !sameRows(l, want) {
					t.Errorf("%s: %s, %s; not %s", brief(q), rowsOf(l), told(err), rowsOf(want))
				}
			}
		}
	}
	wantScan(t, b, "p", api.Query{Back: true}, turned(allRows))
	wantScan(t, b, "p", api.Query{Back: true, Limit: 2}, "(300 xff) (2 x)")
	wantScan(t, b, "p", api.Query{Limit: 2}, "(-2 x61) (1 x62)")
	wantScan(t, b, "p", api.Query{Prefix: part(t, "(1)"), Back: true, Limit: 1}, "(1 x)")
}

// TestScanWrong is P20.6: what is refused, and of several which first.
func TestScanWrong(t *testing.T) {
	b := scanBoth(t)
	p := func(s string) api.Part { return part(t, s) }
	wrong := api.Part{Kind: 9}
	bounds := func(l ...api.Part) []api.Bound {
		var out []api.Bound
		for _, x := range l {
			out = append(out, above(true, x))
		}
		return out
	}
	for i, c := range []struct {
		q   api.Query
		bad *api.Fault
	}{
		{api.Query{Starts: true, Bounds: bounds(p("1"))}, fault(api.ErrArg)},
		{api.Query{Starts: true, Bounds: bounds(wrong), Prefix: wrong}, fault(api.ErrArg)},
		{api.Query{Starts: true, Bounds: bounds(p("1")), Prefix: p("(1 x 1)")}, fault(api.ErrArg)},
		{api.Query{Prefix: wrong}, fault(api.ErrValueForm)},
		{api.Query{Prefix: api.Part{Yes: true}}, fault(api.ErrValueForm)},
		{api.Query{Prefix: wrong, Starts: true}, fault(api.ErrValueForm)},
		{api.Query{Prefix: nested(17, wrong), Bounds: bounds(wrong)}, fault(api.ErrValueDeep)},
		{api.Query{Prefix: p("1")}, fault(api.ErrKind)},
		{api.Query{Prefix: p("x61"), Starts: true}, fault(api.ErrKind)},
		{api.Query{Prefix: p("no"), Bounds: bounds(wrong)}, fault(api.ErrKind)},
		{api.Query{Prefix: p("(1 x 1)")}, fault(api.ErrSpanDeep)},
		{api.Query{Prefix: p("(no x 1)")}, fault(api.ErrSpanDeep)},
		{api.Query{Prefix: p("(1 x)"), Starts: true}, fault(api.ErrSpanDeep)},
		{api.Query{Prefix: p("(1 x)"), Bounds: bounds(p("1"))}, fault(api.ErrSpanDeep)},
		{api.Query{Prefix: p("(no)")}, otherKind(0)},
		{api.Query{Prefix: p("(1 null)")}, faultIn(api.ErrFitNull, 1)},
		{api.Query{Prefix: p("(null)"), Starts: true}, faultIn(api.ErrFitNull, 0)},
		{api.Query{Prefix: p("(1 x000000000000000000)"), Bounds: bounds(p("1"))}, faultIn(api.ErrFitLong, 1)},
		{api.Query{Starts: true}, faultIn(api.ErrSpanKind, 0)},
		{api.Query{Starts: true, Start: "a", Prefix: p("()"), Back: true, Limit: 1}, faultIn(api.ErrSpanKind, 0)},
		{api.Query{Bounds: bounds(p("1"), p("x"), wrong)}, otherKind(0)},
		{api.Query{Bounds: bounds(wrong, p("x"))}, faultIn(api.ErrValueForm, 0)},
		{api.Query{Bounds: bounds(p("null"))}, faultIn(api.ErrFitNull, 0)},
		{api.Query{Prefix: p("(1)"), Bounds: bounds(p("1"))}, otherKind(1)},
		{api.Query{Prefix: p("(1)"), Bounds: bounds(p("x"), p("x000000000000000000"))}, faultIn(api.ErrFitLong, 1)},
		{api.Query{Prefix: p("(1)"), Bounds: bounds(nested(17, api.Part{}))}, faultIn(api.ErrValueDeep, 1)},
	} {
		l, err := b.scan("p", c.q)
		if len(l) != 0 || !sameError(err, c.bad) {
			t.Errorf("%d: %s, %s; not %s", i, rowsOf(l), told(err), told(c.bad))
		}
		isFault(t, err)
		for _, name := range []string{"q", "", "P"} {
			_, err = b.scan(name, c.q)
			want(t, err, fault(api.ErrSpaceName))
		}
	}
	for e, l := range wrongParts() {
		for _, x := range l {
			_, err := b.scan("p", api.Query{Prefix: x})
			want(t, err, fault(e))
			_, err = b.scan("p", api.Query{Bounds: bounds(x)})
			want(t, err, faultIn(e, 0))
		}
	}
}

// TestScanTold is R2: rows are in new memory, those of two scans too.
func TestScanTold(t *testing.T) {
	b := newBoth(t)
	must(t, b.define("t", "limit 64\nfield t tuple\nfield a int\nfield u tuple\nfield b bytes most 8\nend\nend\n"))
	for _, x := range []string{"((1 (x61)))", "((2 (x62)))"} {
		must(t, b.put("t", part(t, x), "v"))
	}
	one, _ := b.s.Scan("t", api.Query{})
	two, _ := b.s.Scan("t", api.Query{})
	one[0].Part.Items[0].Items[1].Items[0] = api.Part{}
	one[0].Part.Items[0].Items[0].Num = api.Num{}
	one[1] = api.Row{}
	_ = append(one[:1], api.Row{})
	_ = append(one[0].Part.Items[:0], api.Part{})
	if rowsOf(two) != "((1 (x61)))=v ((2 (x62)))=v" {
		t.Error(rowsOf(two))
	}
	b.check()
}

// TestScanKinds is P20.6 with T6: rows of every kind, rising and falling, with null and without, in the order of the tuples; bounds by each value of theirs.
func TestScanKinds(t *testing.T) {
	r := rand.New(rand.NewSource(206))
	for _, kind := range []string{"bool", "int", "bytes", "id", "name", "text", "tuple"} {
		for _, word := range []string{"", " down", " null-first", " null-last", " down null-first", " down null-last"} {
			b := newBoth(t)
			must(t, b.tables(oddMarks, oddEntries))
			must(t, b.define("k", kindText(kind, word)))
			s := b.p.list[0].s
			for range 25 {
				must(t, b.put("k", anyTuple(r, s), ""))
			}
			b.check()
			for range 12 {
				q := api.Query{Prefix: api.Part{Kind: api.Tuple}, Back: r.Intn(2) == 0, Limit: r.Intn(6) - 1}
				if r.Intn(2) == 0 {
					q.Prefix.Items = append(q.Prefix.Items, anyPart(r, s.Fields[0]))
				}
				for range r.Intn(3) {
					q.Bounds = append(q.Bounds, api.Bound{Above: r.Intn(2) == 0, Equal: r.Intn(2) == 0, Part: anyPart(r, s.Fields[len(q.Prefix.Items)])})
				}
				if _, err := b.scan("k", q); err != nil {
					t.Fatal(told(err))
				}
			}
		}
	}
}

// kindText is a schema of two fields of a kind, with these words.
func kindText(kind, word string) string {
	behind := map[string]string{"bytes": " most 9", "name": " most 9", "text": " strength 2", "tuple": "\nfield x bool\nfield y int down null-last\nend"}[kind]
	return "limit 999\nfield a " + kind + word + behind + "\nfield b " + kind + word + behind + "\n"
}
