package space_test

import (
	"strings"
	"testing"

	"dovetail/api"
	"dovetail/space"
)

// TestNew is P20.1: no schemas; the tables of two empty texts; and whatever is asked by a name is not there.
func TestNew(t *testing.T) {
	b := newBoth(t)
	if b.s == nil {
		t.Fatal("New is nil")
	}
	b.check()
	if marks, entries := b.s.Texts(); marks != "" || entries != "" || len(b.s.Names()) != 0 {
		t.Errorf("%q, %q, %q", marks, entries, b.s.Names())
	}
	for _, name := range []string{"", "p", "P", "a name that is none"} {
		wantNone(t, b.s, name)
	}
	// a text weighs what its points imply
	must(t, b.define("t", "limit 64\nfield t text strength 1\n"))
	must(t, b.put("t", part(t, `("a")`), "1"))
	if l, err := b.s.Pairs("t"); err != nil || len(l) != 1 || l[0].Key != "\x16\x21\xfb\xc0\x80\x61\x00\x00a\x00\x01" {
		t.Errorf("%q, %s", l, told(err))
	}
}

// wantNone: nothing is told of that name, but that it is not there.
func wantNone(t testing.TB, s *space.Space, name string) {
	t.Helper()
	none := fault(api.ErrSpaceName)
	want(t, s.Evolve(name, pText), none)
	want(t, s.Rekey(name, name, nil), none)
	want(t, s.Put(name, part(t, "(1 x)"), ""), none)
	kept, is, err := s.Get(name, part(t, "(1 x)"))
	want(t, err, none)
	was, err := s.Delete(name, part(t, "(1 x)"))
	want(t, err, none)
	want(t, s.Import(name, "\x12\x80\x23\xff\xfe", ""), none)
	rows, err := s.Scan(name, api.Query{})
	want(t, err, none)
	x, err := s.Schema(name)
	want(t, err, none)
	n, err := s.Len(name)
	want(t, err, none)
	pairs, err := s.Pairs(name)
	want(t, err, none)
	if kept != "" || is || was || len(rows) != 0 || !sameSchemas(x, api.Schema{}) || n != 0 || len(pairs) != 0 {
		t.Errorf("beside an error: %q, %v, %v, %s, %s, %d, %q", kept, is, was, rowsOf(rows), brief(x), n, pairs)
	}
}

// TestNewApart is R2: spaces know nothing of one another.
func TestNewApart(t *testing.T) {
	one, two := madeBoth(t), newBoth(t)
	two.check()
	must(t, two.tables(acute, rising))
	must(t, two.define("p", qText))
	must(t, two.define("q", pText))
	one.check()
	must(t, one.put("p", part(t, "(3 x)"), "4"))
	two.check()
	newBoth(t).check()
}

// TestTexts is P20.1: what weigh tells of the tables, so printed: sorted, without what says nothing.
func TestTexts(t *testing.T) {
	b := newBoth(t)
	must(t, b.tables("# marks\n"+acute+"\n", spelt))
	b.check()
	if marks, entries := b.s.Texts(); marks != "00E1;0;0061 0301\n0301;230;" || entries != rising {
		t.Errorf("%q, %q", marks, entries)
	}
	must(t, b.tables("", "# nothing"))
	if marks, entries := b.s.Texts(); marks != "" || entries != "" {
		t.Errorf("%q, %q", marks, entries)
	}
}

// TestTablesWrong is P20.2: what weigh.Load refuses: its number, the line, and which of the texts; the first one's first. The old tables stand.
func TestTablesWrong(t *testing.T) {
	long := strings.Repeat("#", 65537)
	marks := []struct {
		text string
		bad  *api.Fault
	}{
		{acute, nil},
		{"0301;255;", faultAt(api.ErrUcdLine, 1, 1)},
		{"# one\n\nx", faultAt(api.ErrUcdLine, 3, 1)},
		{acute + "\n0301;1;", faultAt(api.ErrUcdTwice, 3, 1)},
		{"\n0041;0;0042\n0042;0;0041", faultAt(api.ErrUcdLoop, 2, 1)},
		{"0041;0;" + strings.TrimSpace(strings.Repeat("0061 ", 19)), faultAt(api.ErrUcdLong, 1, 1)},
		{long, faultAt(api.ErrLong, 0, 1)},
		{rising, faultAt(api.ErrUcdLine, 1, 1)},
	}
	entries := []struct {
		text string
		bad  *api.Fault
	}{
		{falling, nil},
		{"0061", faultAt(api.ErrTableLine, 1, 2)},
		{"#\n#\n0061;[.0001.0000.0002]", faultAt(api.ErrTableWeight, 3, 2)},
		{"0061;[.FB40.0020.0002]", faultAt(api.ErrTableWeight, 1, 2)},
		{rising + "\n0061;[.1000.0020.0002]", faultAt(api.ErrTableTwice, 4, 2)},
		{long, faultAt(api.ErrLong, 0, 2)},
		{acute, faultAt(api.ErrTableLine, 1, 2)},
	}
	for _, m := range marks {
		for _, e := range entries {
			for _, b := range []both{newBoth(t), weighed(t, "limit 64\nfield t text strength 2\n", `("a")`)} {
				err := b.tables(m.text, e.text)
				switch {
				case m.bad != nil:
					want(t, err, m.bad)
				case e.bad != nil:
					want(t, err, e.bad)
				case len(b.p.list) > 0: // what may not be is told ahead of what may not be changed
					want(t, err, fault(api.ErrSpaceKeep))
				default:
					want(t, err, nil)
				}
			}
		}
	}
}

// weighed is a space with tables, and one row of a schema.
func weighed(t testing.TB, text, row string) both {
	t.Helper()
	b := newBoth(t)
	must(t, b.tables(acute, rising))
	must(t, b.define("t", text))
	must(t, b.put("t", part(t, row), "kept"))
	return b
}

// deepText is a schema whose only text stands so many tuples deep, and a row of it.
func deepText(deep int) (string, string) {
	text, row := "field n bool\nfield t text strength 1\n", `no "a"`
	for range deep {
		text, row = "field n bool\nfield t tuple\n"+text+"end\n", "no ("+row+")"
	}
	return "limit 99\n" + text, "(" + row + ")"
}

// changedTables are others than those of weighed: by the marks alone, by the entries alone, by both, and by none at all.
func changedTables() [][2]string {
	return [][2]string{
		{"0301;230;", rising}, {acute + "\n0302;230;", rising}, {"0301;229;\n00E1;0;0061 0301", rising}, {"", rising},
		{acute, falling}, {acute, rising + "\n0063;[.1002.0020.0002]"}, {acute, ""},
		{"0301;230;", falling}, {"", ""},
	}
}

// TestTablesText is P20.2: with a row that has a field of Text, however deep, no other tables are taken; the same ones are, spelt otherwise too; and others again once there is no such row.
func TestTablesText(t *testing.T) {
	for deep := range 16 {
		text, row := deepText(deep)
		b := weighed(t, text, row)
		for _, c := range changedTables() {
			want(t, b.tables(c[0], c[1]), fault(api.ErrSpaceKeep))
		}
		must(t, b.tables(acute, rising))
		must(t, b.tables("00E1;0;0061 0301\n#\n0301;230;\n", spelt))
		b.check()
		if _, err := b.remove("t", part(t, row)); err != nil {
			t.Fatal(told(err))
		}
		for _, c := range changedTables() {
			must(t, b.tables(c[0], c[1]))
			b.check()
		}
	}
}

// TestTablesNull is P20.2: the field counts, not what the rows have there.
func TestTablesNull(t *testing.T) {
	for _, c := range [][2]string{
		{"limit 9\nfield t text null-first strength 1\n", "(null)"},
		{"limit 9\nfield u bool\nfield t tuple down null-last\nfield x text strength 4 shifted back\nend\n", "(no null)"},
	} {
		b := weighed(t, c[0], c[1])
		want(t, b.tables(acute, falling), fault(api.ErrSpaceKeep))
		must(t, b.tables(acute, spelt))
		b.check()
	}
}

// TestTablesFree is P20.2: rows without a text, and texts without rows, bear any tables; of several schemas one is enough to bear none.
func TestTablesFree(t *testing.T) {
	b := newBoth(t)
	must(t, b.tables(acute, rising))
	must(t, b.define("p", "limit 64\nfield a int\nfield n name most 8\nfield t tuple\nfield b bytes most 8\nend\n"))
	must(t, b.put("p", part(t, "(1 'a' (x00))"), ""))
	must(t, b.define("t", "limit 64\nfield t text strength 1\n"))
	must(t, b.define("a", "limit 64\nfield a bool\nfield t tuple\nfield t text strength 1\nend\n"))
	for _, c := range changedTables() {
		must(t, b.tables(c[0], c[1]))
		b.check()
	}
	must(t, b.tables(acute, rising))
	for _, x := range [][2]string{{"t", `("a")`}, {"a", `(no ("a"))`}} {
		must(t, b.put(x[0], part(t, x[1]), ""))
		want(t, b.tables(acute, falling), fault(api.ErrSpaceKeep))
		if is, err := b.remove(x[0], part(t, x[1])); !is || err != nil {
			t.Fatal(told(err))
		}
		must(t, b.tables(acute, falling))
		must(t, b.tables(acute, rising))
	}
	// a schema that loses its text, or gains one
	must(t, b.evolve("t", "limit 64\nfield t name most 8\n"))
	must(t, b.put("t", part(t, "('a')"), ""))
	must(t, b.tables(acute, falling))
	if is, err := b.remove("t", part(t, "('a')")); !is || err != nil {
		t.Fatal(told(err))
	}
	must(t, b.evolve("t", "limit 64\nfield t text strength 2\n"))
	must(t, b.put("t", part(t, `("a")`), ""))
	want(t, b.tables(acute, rising), fault(api.ErrSpaceKeep))
}

// TestTablesGained is P20.2 with P20.3: rows whose schema comes to have a text by Evolve, where no key that there is says so.
func TestTablesGained(t *testing.T) {
	b := newBoth(t)
	must(t, b.define("t", "limit 10\nfield t id null-first\n"))
	must(t, b.put("t", part(t, "(null)"), "1"))
	must(t, b.tables(acute, rising))
	must(t, b.evolve("t", "limit 10\nfield t text null-first strength 1\n")) // an ID has seventeen bytes in a key
	want(t, b.tables(acute, falling), fault(api.ErrSpaceKeep))
	must(t, b.put("t", part(t, `("b")`), "2"))
	wantScan(t, b, "t", api.Query{}, `(null)=1 ("b")=2`)
	b.check()
}

// TestTablesWeigh is P20.2: the tables that are taken are those by which rows stand from then on, and those that are refused are not.
func TestTablesWeigh(t *testing.T) {
	b := newBoth(t)
	must(t, b.define("t", "limit 64\nfield t text strength 2\n"))
	for _, c := range []struct{ entries, want string }{
		{rising, `("a")=1 ("b")=2`},
		{falling, `("b")=2 ("a")=1`},
	} {
		must(t, b.tables(acute, c.entries))
		must(t, b.put("t", part(t, `("a")`), "1"))
		want(t, b.tables(acute, ""), fault(api.ErrSpaceKeep))
		want(t, b.tables("x", ""), faultAt(api.ErrUcdLine, 1, 1))
		must(t, b.put("t", part(t, `("b")`), "2"))
		wantScan(t, b, "t", api.Query{}, c.want)
		b.check()
		must(t, b.evolve("t", "limit 65\nfield t text strength 2\n"))
		for _, x := range []string{`("a")`, `("b")`} {
			if is, err := b.remove("t", part(t, x)); !is || err != nil {
				t.Fatal(told(err))
			}
		}
	}
}
