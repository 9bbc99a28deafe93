package space_test

import (
	"reflect"
	"slices"
	"strconv"
	"strings"
	"testing"

	"dovetail/api"
	"dovetail/schema"
)

// TestNames is P20.1: by rising bytes, in whatever order they came.
func TestNames(t *testing.T) {
	names := []string{"a", "a-", "a--", "a-z", "a0", "a9", "aa", "abcdefghijklmnop", "b", "z", "z-9"}
	for turn := range len(names) {
		b := newBoth(t)
		for i := range names {
			must(t, b.define(names[(i*7+turn)%len(names)], pText))
			b.check()
		}
		if got := b.s.Names(); !slices.Equal(got, names) {
			t.Errorf("%q", got)
		}
	}
}

// wrongNames are none, by chapter 11's words.
func wrongNames() []string {
	return []string{"", "P", "aB", "1", "1a", "-", "-a", "a_b", "a b", " a", "a ", "a\x00", "\x00", "a.", "a/", "a:", "`", "{", "a{", "\xc3\xa1", "a\xff", "abcdefghijklmnopq", strings.Repeat("a", 70000)}
}

// wrongSchemas are texts that schema.Parse refuses, and what it tells.
func wrongSchemas() map[string]*api.Fault {
	return map[string]*api.Fault{
		"":                            faultAt(api.ErrSchemaLine, 1),
		"limit 09\n":                  faultAt(api.ErrSchemaLine, 1),
		"limit 9\n\nfield a bytes\n":  faultAt(api.ErrSchemaLine, 3),
		"limit 9\nfield a tuple\n":    faultAt(api.ErrSchemaLine, 3),
		"limit 0\nfield a bool\n":     faultAt(api.ErrSchemaRange, 1),
		"limit 65537\nfield a bool\n": faultAt(api.ErrSchemaRange, 1),
		"limit 9\n":                   faultAt(api.ErrSchemaEmpty, 1),
		"#\nlimit 9\nfield A bool\n":  faultAt(api.ErrSchemaName, 3, 0),
		"limit 9\nfield a bool\nfield t tuple\nfield a int\nfield a int\nend\n": faultAt(api.ErrSchemaTwice, 5, 1, 1),
		"limit 9\nfield a int from 5 to 3\n":                                    faultAt(api.ErrSchemaRange, 2, 0),
		"limit 9\nfield a text strength 4\n":                                    faultAt(api.ErrSchemaRange, 2, 0),
		"limit 9\nfield a tuple\nend\n":                                         faultAt(api.ErrSchemaEmpty, 2, 0),
		strings.Repeat("#", 65537):                                              fault(api.ErrLong),
	}
}

// longPrinted is a text that would be longer, if it were printed, than a text may be: its fields stand further in then.
func longPrinted() string {
	nines := strings.Repeat("9", 590)
	var out strings.Builder
	out.WriteString("limit 9\n" + strings.Repeat("field a tuple\n", 10))
	for i := range 54 {
		out.WriteString("field f" + strconv.Itoa(i) + " int from -" + nines + " to " + nines + "\n")
	}
	out.WriteString(strings.Repeat("end\n", 10))
	return out.String()
}

// TestDefine is P20.3: a name of each sort, with the schema that the text says, and no rows.
func TestDefine(t *testing.T) {
	b := newBoth(t)
	for _, name := range []string{"p", "a", "z", "a-", "a0", "a-0-z", "abcdefghijklmnop", "limit", "null"} {
		must(t, b.define(name, "# remark\nlimit 64 # bytes\n\n field a int null-last from -5 to 300\nfield t tuple down\nfield x text strength 2 back\nend"))
		b.check()
		if n, err := b.s.Len(name); n != 0 || err != nil {
			t.Errorf("%d, %s", n, told(err))
		}
		s, _ := b.s.Schema(name)
		want := api.Schema{Limit: 64, Fields: []api.Field{
			{Name: "a", Kind: api.Int, Nulls: api.NullLast, Bounded: true, Low: api.Num{Below: true, Mag: "\x05"}, High: api.Num{Mag: "\x01\x2c"}},
			{Name: "t", Kind: api.Tuple, Down: true, Fields: []api.Field{{Name: "x", Kind: api.Text, Collate: api.Collate{Strength: 2, Back: true}}}},
		}}
		if !sameSchemas(s, want) {
			t.Errorf("%s, not %s", brief(s), brief(want))
		}
	}
}

// TestDefineWrong is P20.3: what is no name, what is there already, what is no schema: the first of them.
func TestDefineWrong(t *testing.T) {
	b := madeBoth(t)
	texts := map[string]*api.Fault{pText: nil, qText: nil}
	for text, bad := range wrongSchemas() {
		texts[text] = bad
	}
	for text, bad := range texts {
		for _, name := range wrongNames() {
			want(t, b.define(name, text), fault(api.ErrSpaceName))
		}
		want(t, b.define("p", text), fault(api.ErrSpaceTwice))
		if bad != nil {
			want(t, b.define("q", text), bad)
			wantNone(t, b.s, "q")
		}
	}
	long := longPrinted()
	if len(long) > api.MaxText {
		t.Fatalf("%d bytes", len(long))
	}
	want(t, b.define("q", long), fault(api.ErrLong))
	want(t, b.evolve("p", long), fault(api.ErrLong))
}

// TestEvolveWrong is P20.3: a name that is not there, what is no schema, what does not bear the keys: the first of them.
func TestEvolveWrong(t *testing.T) {
	b := madeBoth(t)
	must(t, b.define("e", pText))
	for text, bad := range wrongSchemas() {
		for _, name := range append(wrongNames(), "q", "pp", "p-") {
			want(t, b.evolve(name, text), fault(api.ErrSpaceName))
		}
		want(t, b.evolve("p", text), bad)
		want(t, b.evolve("e", text), bad)
	}
	for _, name := range append(wrongNames(), "q") {
		want(t, b.evolve(name, pText), fault(api.ErrSpaceName))
	}
}

// TestEvolveRows is P20.3: with rows just what compat says to fit stands in the schema's place, whatever the rows themselves are; the keys and what is kept stay.
func TestEvolveRows(t *testing.T) {
	for text, fits := range map[string]bool{
		pText: true,
		"limit 64\nfield a int null-first\nfield b bytes down most 8\n":              true,
		"limit 64\nfield a int null-last\nfield b bytes down null-first most 8\n":    true,
		"limit 64\nfield z int\nfield y bytes down most 9\n":                         true, // names do not matter
		"limit 65536\nfield a int\nfield b bytes down most 65536\n":                  true,
		"limit 63\nfield a int\nfield b bytes down most 8\n":                         false, // Short is not enough
		"limit 64\nfield a int\nfield b bytes down most 7\n":                         false, // no row has so many
		"limit 64\nfield a int\nfield b bytes down most 0\n":                         false,
		"limit 64\nfield a int\nfield b bytes most 8\n":                              false,
		"limit 64\nfield a int\nfield b name down most 8\n":                          false,
		"limit 64\nfield a int from 0 to 9\nfield b bytes down most 8\n":             false,
		"limit 64\nfield a int\n":                                                    false,
		"limit 64\nfield a int\nfield b bytes down most 8\nfield c bool null-last\n": false,
	} {
		b := madeBoth(t)
		before, _ := b.s.Pairs("p")
		err := b.evolve("p", text)
		if fits {
			want(t, err, nil)
		} else {
			want(t, err, fault(api.ErrSpaceKeep))
		}
		b.check()
		if after, _ := b.s.Pairs("p"); !slices.Equal(before, after) || len(after) != 3 {
			t.Errorf("%s: %q", brief(text), after)
		}
		wantScan(t, b, "p", api.Query{}, "(1 x79)=2 (1 x78)=1 (2 x)=3")
		// without rows anything stands in its place
		for _, r := range slices.Clone(b.p.list[0].rows) {
			if is, err := b.remove("p", r.Part); !is || err != nil {
				t.Fatal(told(err))
			}
		}
		must(t, b.evolve("p", text))
		b.check()
		must(t, b.evolve("p", "limit 1\nfield q bool null-last\n"))
		must(t, b.put("p", part(t, "(null)"), ""))
		b.check()
	}
}

// TestEvolveAfter is P20.3: the new schema is the one by which all calls go from then on.
func TestEvolveAfter(t *testing.T) {
	b := madeBoth(t)
	want(t, b.put("p", part(t, "(null x)"), ""), faultIn(api.ErrFitNull, 0))
	must(t, b.evolve("p", "limit 64\nfield a int null-first\nfield b bytes down most 9\n"))
	must(t, b.put("p", part(t, "(null x)"), "4"))
	must(t, b.put("p", part(t, "(1 x787878787878787878)"), "5"))
	must(t, b.importKey("p", "\x02\x23\xff\xfe", "6"))
	wantScan(t, b, "p", api.Query{}, "(null x)=6 (1 x79)=2 (1 x787878787878787878)=5 (1 x78)=1 (2 x)=3")
	b.check()
	want(t, b.evolve("p", pText), fault(api.ErrSpaceKeep))
	// also where the rows that the old one refuses are gone
	for _, x := range []string{"(null x)", "(1 x787878787878787878)"} {
		if is, err := b.remove("p", part(t, x)); !is || err != nil {
			t.Fatal(told(err))
		}
	}
	want(t, b.evolve("p", pText), fault(api.ErrSpaceKeep))
	// other schemas are none of its matter
	must(t, b.define("q", pText))
	must(t, b.evolve("q", qText))
	b.check()
}

// TestSchema is P20.5 and R2: the schema, in new memory, whatever is done to it.
func TestSchema(t *testing.T) {
	b := newBoth(t)
	const text = "limit 64\nfield a int from 1 to 2\nfield t tuple\n  field x bool\n  field u tuple\n    field y text strength 1\n  end\nend\n"
	must(t, b.define("p", text))
	one, err := b.s.Schema("p")
	must(t, err)
	if again, err := schema.Print(one); err != nil || again != text {
		t.Errorf("%q, %s", again, told(err))
	}
	two, _ := b.s.Schema("p")
	if !reflect.DeepEqual(one, two) {
		t.Errorf("%s, %s", brief(one), brief(two))
	}
	one.Fields[0] = api.Field{}
	one.Fields[1].Fields[0].Kind = api.ID
	one.Fields[1].Fields[1].Fields[0].Collate.Strength = 3
	_ = append(one.Fields[:1], api.Field{Name: "more"})
	_ = append(one.Fields[1].Fields[:0], api.Field{Name: "more"})
	b.check()
	c := b.clone()
	three, _ := c.s.Schema("p")
	three.Fields[1].Fields[1].Fields[0] = api.Field{}
	b.check()
	c.check()
	if four, _ := b.s.Schema("p"); !reflect.DeepEqual(four, two) {
		t.Errorf("%s, %s", brief(four), brief(two))
	}
}
