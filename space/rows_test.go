package space_test

import (
	"slices"
	"strconv"
	"strings"
	"testing"

	"dovetail/api"
	"dovetail/pack"
)

// TestPut is P20.4: a row more, or what is kept under it put over, at each place; the row's key is the tuple's.
func TestPut(t *testing.T) {
	b := newBoth(t)
	must(t, b.define("p", pText))
	must(t, b.define("q", pText))
	for i, x := range []string{"(1 x78)", "(1 x79)", "(2 x)", "(-2 x)", "(1 x)", "(0 x00)", "(0 x0000)", "(1 x78)", "(2 x)", "(-2 x)"} {
		must(t, b.put("p", part(t, x), strconv.Itoa(i)))
		b.check()
	}
	wantScan(t, b, "p", api.Query{}, "(-2 x)=9 (0 x0000)=6 (0 x00)=5 (1 x79)=1 (1 x78)=7 (1 x)=4 (2 x)=8")
	wantScan(t, b, "q", api.Query{}, "")
	l, err := b.s.Pairs("p")
	want(t, err, nil)
	if len(l) != 7 || l[0] != (api.Pair{Key: "\x12\x7f\xfd\x23\xff\xfe", Value: "9"}) || l[6] != (api.Pair{Key: "\x12\x81\x02\x23\xff\xfe", Value: "8"}) {
		t.Errorf("%q", l)
	}
}

// TestValues is P20.4: what is kept is any bytes, none too, and at most 65536; of none there is a row all the same.
func TestValues(t *testing.T) {
	b := madeBoth(t)
	x := part(t, "(1 x78)")
	for _, v := range []string{"", "\x00", "\xff", strings.Repeat("\x00\xff", 32768), "a", strings.Repeat("b", 65536), strings.Repeat("c", 65535), ""} {
		must(t, b.put("p", x, v))
		b.check()
		must(t, b.importKey("p", "\x12\x80\x23\xff\xfe", v))
		b.check()
		if got, is, err := b.get("p", part(t, "(0 x)")); got != v || !is || err != nil {
			t.Errorf("%s, %v, %s", brief(got), is, told(err))
		}
		for _, long := range []string{strings.Repeat("d", 65537), strings.Repeat("\x00", 1<<20)} {
			want(t, b.put("p", x, long), fault(api.ErrLong))
			want(t, b.put("p", part(t, "(7 x)"), long), fault(api.ErrLong))
			want(t, b.importKey("p", "\x12\x80\x23\xff\xfe", long), fault(api.ErrLong))
		}
	}
	if got, is, err := b.get("p", x); got != "" || !is || err != nil {
		t.Errorf("%s, %v, %s", brief(got), is, told(err))
	}
}

// TestGetDelete is P20.4: of what is there, and of what is not.
func TestGetDelete(t *testing.T) {
	b := madeBoth(t)
	for _, x := range []string{"(1 x78)", "(1 x79)", "(2 x)"} {
		for _, none := range []string{"(0 x)", "(1 x)", "(1 x7800)", "(2 x00)", "(-1 x78)", "(3 xff)"} {
			if v, is, err := b.get("p", part(t, none)); v != "" || is || err != nil {
				t.Errorf("%s: %q, %v, %s", none, v, is, told(err))
			}
			if is, err := b.remove("p", part(t, none)); is || err != nil {
				t.Errorf("%s: %v, %s", none, is, told(err))
			}
			b.check()
		}
		if v, is, err := b.get("p", part(t, x)); v == "" || !is || err != nil {
			t.Errorf("%s: %q, %v, %s", x, v, is, told(err))
		}
		for _, there := range []bool{true, false, false} {
			if is, err := b.remove("p", part(t, x)); is != there || err != nil {
				t.Errorf("%s: %v, %s", x, is, told(err))
			}
			b.check()
		}
		if v, is, err := b.get("p", part(t, x)); v != "" || is || err != nil {
			t.Errorf("%s: %q, %v, %s", x, v, is, told(err))
		}
	}
	if n, err := b.s.Len("p"); n != 0 || err != nil {
		t.Errorf("%d, %s", n, told(err))
	}
	must(t, b.put("p", part(t, "(1 x78)"), "again"))
	b.check()
}

// unfit are parts that are no tuples of the schema p, or have no key, and what is told of them.
func unfit() map[string]*api.Fault {
	return map[string]*api.Fault{
		"null":                                 fault(api.ErrFitNull),
		"1":                                    otherKind(),
		"x78":                                  otherKind(),
		"()":                                   fault(api.ErrFitCount),
		"(1)":                                  fault(api.ErrFitCount),
		"(1 x x)":                              fault(api.ErrFitCount),
		"(null x)":                             faultIn(api.ErrFitNull, 0),
		"(1 null)":                             faultIn(api.ErrFitNull, 1),
		"(1 no)":                               otherKind(1),
		"('a' no)":                             otherKind(0),
		"((1) x)":                              otherKind(0),
		"(1 'x')":                              otherKind(1),
		"(1 x000000000000000000)":              faultIn(api.ErrFitLong, 1),
		"(" + strings.Repeat("9", 150) + " x)": fault(api.ErrPackLong), // of sixty-three bytes
	}
}

// TestTupleFault is P20.4: the Fault of what is no tuple of the schema, as it comes from below, by Put, Get and Delete alike.
func TestTupleFault(t *testing.T) {
	b := madeBoth(t)
	check := func(p api.Part, bad error) {
		t.Helper()
		want(t, b.put("p", p, "v"), bad)
		v, is, err := b.get("p", p)
		want(t, err, bad)
		was, err := b.remove("p", p)
		want(t, err, bad)
		if v != "" || is || was {
			t.Errorf("%s: %q, %v, %v", brief(p), v, is, was)
		}
	}
	for text, bad := range unfit() {
		check(part(t, text), bad)
	}
	for e, l := range wrongParts() {
		for _, p := range l {
			check(p, fault(e))
			check(api.Part{Kind: api.Tuple, Items: []api.Part{{Kind: api.Bool}, p}}, fault(e)) // ahead of what does not fit
		}
	}
	must(t, b.define("s", "limit 7\nfield n name most 9\nfield t tuple\nfield u text strength 1\nend\n"))
	for text, bad := range map[string]*api.Fault{
		"('\\xff' (\"\"))":     {Code: api.ErrFitUtf, Path: []int{0}, Why: api.ErrUtfForm},
		"('' (\"a\\xc3\"))":    {Code: api.ErrFitUtf, At: 1, Path: []int{1, 0}, Why: api.ErrUtfForm},
		"('' (null))":          faultIn(api.ErrFitNull, 1, 0),
		"('' ())":              faultIn(api.ErrFitCount, 1),
		"('' (\"\"))":          fault(api.ErrPackLong),
		"('aaaaaaaaaa' (no))":  faultIn(api.ErrFitLong, 0),
		"('aaaaaaaaa' (\"\"))": fault(api.ErrPackLong),
	} {
		want(t, b.put("s", part(t, text), ""), bad)
		_, _, err := b.get("s", part(t, text))
		want(t, err, bad)
		_, err = b.remove("s", part(t, text))
		want(t, err, bad)
	}
}

// TestPutLimit is P20.4: a key of just as many bytes as the schema lets be, and of one more.
func TestPutLimit(t *testing.T) {
	for limit := 3; limit <= 12; limit++ {
		b := newBoth(t)
		must(t, b.define("p", "limit "+strconv.Itoa(limit)+"\nfield b bytes most 65536\n"))
		for n := range 12 {
			p := api.Part{Kind: api.Tuple, Items: []api.Part{{Kind: api.Bytes, Raw: strings.Repeat("a", n)}}}
			key := "\x13" + strings.Repeat("a", n) + "\x00\x01"
			if n+3 <= limit {
				must(t, b.put("p", p, "1"))
				must(t, b.importKey("p", key, "2"))
				continue
			}
			want(t, b.put("p", p, "1"), fault(api.ErrPackLong))
			_, _, err := b.get("p", p)
			want(t, err, fault(api.ErrPackLong))
			_, err = b.remove("p", p)
			want(t, err, fault(api.ErrPackLong))
			want(t, b.importKey("p", key, "2"), faultAt(api.ErrPackLong, limit))
		}
		b.check()
	}
}

// TestRowsFirst is P20.4: of a name that is not there, what is too long, and a tuple or a key that is none, the first is told.
func TestRowsFirst(t *testing.T) {
	b := madeBoth(t)
	long := strings.Repeat("v", 65537)
	for _, p := range []api.Part{part(t, "(1 x)"), part(t, "(1)"), {Kind: 9}, nested(17, api.Part{})} {
		for _, v := range []string{"", long} {
			for _, name := range append(wrongNames(), "q") {
				want(t, b.put(name, p, v), fault(api.ErrSpaceName))
				want(t, b.importKey(name, "\x12\x80\x23", v), fault(api.ErrSpaceName))
				_, _, err := b.get(name, p)
				want(t, err, fault(api.ErrSpaceName))
				_, err = b.remove(name, p)
				want(t, err, fault(api.ErrSpaceName))
			}
		}
		want(t, b.put("p", p, long), fault(api.ErrLong))
	}
	for _, key := range []string{"\x12\x80\x23\xff\xfe", "", "\x12\x80\x23", strings.Repeat("\x12", 65)} {
		want(t, b.importKey("p", key, long), fault(api.ErrLong))
	}
}

// TestImport is P20.4: a whole key is the row of its tuple; put over what is kept, too.
func TestImport(t *testing.T) {
	b := madeBoth(t)
	must(t, b.importKey("p", "\x12\x80\x23\xff\xfe", "nought"))
	must(t, b.importKey("p", "\x12\x81\x01\x23\x87\xff\xfe", "over"))
	wantScan(t, b, "p", api.Query{}, "(0 x)=nought (1 x79)=2 (1 x78)=over (2 x)=3")
	b.check()
	if is, err := b.remove("p", part(t, "(0 x)")); !is || err != nil {
		t.Errorf("%v, %s", is, told(err))
	}
	l, _ := b.s.Pairs("p")
	other := newBoth(t)
	must(t, other.define("p", pText))
	for _, x := range l {
		must(t, other.importKey("p", x.Key, x.Value))
	}
	if m, _ := other.s.Pairs("p"); !slices.Equal(l, m) {
		t.Errorf("%q, not %q", m, l)
	}
	other.check()
}

// TestImportWrong is P20.4: bytes that are no key are refused as pack.Decode does it: the place, the path, what it comes of.
func TestImportWrong(t *testing.T) {
	b := madeBoth(t)
	in := func(e api.Errno, at, field, within int) *api.Fault {
		return &api.Fault{Code: e, At: at, Path: []int{field}, Why: faultAt(e, within)}
	}
	for key, bad := range map[string]*api.Fault{
		"":                             in(api.ErrFieldShort, 0, 0, 0),
		"\x12":                         in(api.ErrFieldShort, 1, 0, 1),
		"\x12\x80":                     in(api.ErrFieldShort, 2, 1, 0),
		"\x12\x80\x23":                 in(api.ErrFieldShort, 3, 1, 1),
		"\x12\x80\x23\xff":             in(api.ErrFieldShort, 4, 1, 2),
		"\x12\x80\x23\xff\xfe\x00":     faultAt(api.ErrPackMore, 5),
		"\x12\x80\x23\xff\xff":         {Code: api.ErrFieldEscape, At: 3, Path: []int{1}, Why: &api.Fault{Code: api.ErrFieldEscape, At: 1, Why: api.ErrOrdForm}},
		"\x12\x80\x13\x00\x01":         in(api.ErrFieldTag, 2, 1, 0),
		"\x11\x00\x23\xff\xfe":         in(api.ErrFieldTag, 0, 0, 0),
		"\x02\x23\xff\xfe":             in(api.ErrFieldTag, 0, 0, 0),
		strings.Repeat("\x12\x80", 33): faultAt(api.ErrPackLong, 64),
	} {
		want(t, b.importKey("p", key, "v"), bad)
	}
	// a key of another schema, and each beginning of a whole one, and all that goes on behind it
	must(t, b.define("q", qText))
	must(t, b.put("q", part(t, "(x78 'z' 1)"), ""))
	pairs, _ := b.s.Pairs("q")
	if err := b.importKey("p", pairs[0].Key, ""); err == nil {
		t.Error("a key of q is none of p")
	}
	key := "\x12\x81\x01\x23\x87\xff\xfe"
	for i := range len(key) {
		for _, x := range []string{key[:i], key + key[:i+1], key[:i] + "\x00" + key[i+1:]} {
			_, bad := pack.Decode(b.p.tables, b.p.list[0].s, x)
			if err := b.importKey("p", x, ""); !sameError(err, bad) {
				t.Errorf("%q: %s, not %s", x, told(err), told(bad))
			}
		}
	}
}

// TestImportText is P20.4: a text's key with another sort key than the tables say is refused.
func TestImportText(t *testing.T) {
	b := newBoth(t)
	must(t, b.tables(acute, rising))
	must(t, b.define("t", "limit 64\nfield t text strength 1\n"))
	must(t, b.importKey("t", "\x16\x21\x10\x00\x00\x00a\x00\x01", "a"))
	err := b.importKey("t", "\x16\x21\x0f\xff\x00\x00b\x00\x01", "b")
	want(t, err, &api.Fault{Code: api.ErrFieldWeight, At: 2, Path: []int{0}, Why: faultAt(api.ErrFieldWeight, 2)})
	must(t, b.importKey("t", "\x16\x21\x10\x01\x00\x00b\x00\x01", "b"))
	wantScan(t, b, "t", api.Query{}, `("a")=a ("b")=b`)
	b.check()
}

// TestTwoSpellings: texts that are canonically the same, and not spelt alike, are two rows.
func TestTwoSpellings(t *testing.T) {
	b := newBoth(t)
	must(t, b.tables(acute, rising))
	must(t, b.define("t", "limit 64\nfield t text strength 2\n"))
	must(t, b.put("t", part(t, `("\xc3\xa1")`), "one"))
	must(t, b.put("t", part(t, `("a\xcc\x81")`), "two"))
	wantScan(t, b, "t", api.Query{}, `("a\xcc\x81")=two ("\xc3\xa1")=one`)
	if is, err := b.remove("t", part(t, `("\xc3\xa1")`)); !is || err != nil {
		t.Errorf("%v, %s", is, told(err))
	}
	b.check()
}

// TestPairs is P20.5: by rising keys, in new memory; Len is how many they are.
func TestPairs(t *testing.T) {
	b := madeBoth(t)
	must(t, b.define("none", pText))
	if l, err := b.s.Pairs("none"); len(l) != 0 || err != nil {
		t.Errorf("%q, %s", l, told(err))
	}
	one, err := b.s.Pairs("p")
	want(t, err, nil)
	keys := []api.Pair{{Key: "\x12\x81\x01\x23\x86\xff\xfe", Value: "2"}, {Key: "\x12\x81\x01\x23\x87\xff\xfe", Value: "1"}, {Key: "\x12\x81\x02\x23\xff\xfe", Value: "3"}}
	if !slices.Equal(one, keys) {
		t.Errorf("%q, not %q", one, keys)
	}
	one[0], one[2] = api.Pair{}, api.Pair{Key: "x"}
	_ = append(one[:1], api.Pair{})
	b.check()
	if n, err := b.s.Len("p"); n != 3 || err != nil {
		t.Errorf("%d, %s", n, told(err))
	}
}
