package weigh

import (
	"fmt"
	"math"
	"math/rand"
	"slices"
	"strings"
	"testing"

	"dovetail/api"
	"dovetail/match"
	"dovetail/normal"
	"dovetail/table"
	"dovetail/ucd"
	"dovetail/utf"
)

// The tables that the chapter's examples are of.
const (
	exampleMarks   = "0301;230;\n00E1;0;0061 0301"
	exampleEntries = "0061;[.1000.0020.0002]\n0041;[.1000.0020.0008]\n0062;[.1001.0020.0002]\n0020;[*0209.0020.0002]\n0301;[.0000.0024.0002]"
)

// Tables with an element of each sort, with rows of several points, and with entries of several elements.
const (
	oddMarks   = "0301;230;\n0302;230;\n0323;220;\n00E1;0;0061 0301\n00E2;0;00E1 0323"
	oddEntries = "0061;[.1000.0020.0002]\n" +
		"0041;[.1000.0020.0008]\n" +
		"0062;[.1001.0021.0003]\n" +
		"0063 0068;[.1002.0020.0002]\n" + // two points, one element
		"0061 0323;[.1003.0020.0002]\n" + // a mark that joins
		"0078;[.1000.0020.0002][.0000.0025.0002][.1001.0020.0004]\n" + // several elements
		"0020;[*0209.0020.0002]\n" + // variable
		"002D;[*020A.0021.0005]\n" +
		"0079;[*0209.0020.0002][.0000.0026.0002][.1000.0020.0002]\n" + // of each sort
		"007A;[.0000.0027.0003][*020B.0020.0002]\n" + // what is variable stands last
		"0301;[.0000.0024.0002]\n" + // without a primary weight
		"0302;[.0000.0000.0009]\n" + // nor a secondary one
		"0323;[.0000.0000.0000]\n" + // nor any
		"0030;[.0001.0001.0001]\n" + // the least ones
		"0031;[.FB3F.FFFF.FFFF]\n" + // the greatest ones
		"0032;[.0100.0100.0100]\n" + // bytes of nought
		"0033;[*FB3F.FFFF.FFFF]"
)

func load(t *testing.T, marks, entries string) *Tables {
	t.Helper()
	x, e, which, line := Load(marks, entries)
	if e != api.OK || which != 0 || line != 0 || x == nil {
		t.Fatalf("Load: %d, %d, %d", e, which, line)
	}
	return x
}

func example(t *testing.T) *Tables { return load(t, exampleMarks, exampleEntries) }

func odd(t *testing.T) *Tables { return load(t, oddMarks, oddEntries) }

// bytesOf reads weights, as two bytes each; what stands between them says nothing.
func bytesOf(s string) string {
	var b strings.Builder
	for _, f := range strings.FieldsFunc(s, func(r rune) bool { return r == ' ' || r == ',' }) {
		var n int
		fmt.Sscanf(f, "%x", &n)
		b.WriteByte(byte(n / 256))
		b.WriteByte(byte(n % 256))
	}
	return b.String()
}

// collations are all that are right.
func collations() []api.Collate {
	var l []api.Collate
	for _, back := range []bool{false, true} {
		for strength := 1; strength <= 3; strength++ {
			l = append(l, api.Collate{Strength: strength, Back: back}, api.Collate{Strength: strength, Shifted: true, Back: back})
		}
		l = append(l, api.Collate{Strength: 4, Shifted: true, Back: back})
	}
	return l
}

// wantKey holds Key, and Compare of the text with itself, against a key.
func wantKey(t *testing.T, x *Tables, c api.Collate, s, want string) {
	t.Helper()
	if got, e := x.Key(c, s); got != want || e != api.OK {
		t.Fatalf("Key(%v, %.80q) = %.200x, %d, not %.200x", c, s, got, e, want)
	}
	if n, e := x.Compare(c, s, s); n != 0 || e != api.OK {
		t.Fatalf("Compare(%v, %.80q with itself) = %d, %d", c, s, n, e)
	}
}

// wantCompare holds Compare, both ways round, against a number.
func wantCompare(t *testing.T, x *Tables, c api.Collate, a, b string, want int) {
	t.Helper()
	if n, e := x.Compare(c, a, b); n != want || e != api.OK {
		t.Fatalf("Compare(%v, %.80q, %.80q) = %d, %d, not %d", c, a, b, n, e, want)
	}
	if n, e := x.Compare(c, b, a); n != -want || e != api.OK {
		t.Fatalf("Compare(%v, %.80q, %.80q) = %d, %d, not %d", c, b, a, n, e, -want)
	}
}

func key(t *testing.T, x *Tables, c api.Collate, s string) string {
	t.Helper()
	k, e := x.Key(c, s)
	if e != api.OK {
		t.Fatalf("Key(%v, %.80q): %d", c, s, e)
	}
	return k
}

// plainWiped says word for word, of one element, what the chapter says of it.
func plainWiped(c api.Collate, l []api.Element, i int) bool {
	if !c.Shifted {
		return false
	}
	if l[i].Variable {
		return true
	}
	if l[i].Primary != 0 {
		return false
	}
	for j := i - 1; j >= 0; j-- {
		if l[j].Variable {
			return true
		}
		if l[j].Primary != 0 {
			return false
		}
	}
	return false
}

// plainWeight is an element's weight at a level, by the chapter's words.
func plainWeight(c api.Collate, l []api.Element, i, level int) int {
	wiped := plainWiped(c, l, i)
	if level < 4 {
		if wiped {
			return 0
		}
		return []int{l[i].Primary, l[i].Secondary, l[i].Tertiary}[level-1]
	}
	if l[i].Variable {
		return l[i].Primary
	}
	if wiped || l[i].Primary == 0 && l[i].Secondary == 0 && l[i].Tertiary == 0 {
		return 0
	}
	return 0xffff
}

// plainLevels are a text's levels, by the chapter's words.
func plainLevels(t *testing.T, x *Tables, c api.Collate, s string) [][]int {
	t.Helper()
	points, e, at := utf.Points(s)
	if e != api.OK {
		t.Fatalf("%q: %d, %d", s, e, at)
	}
	l := match.Elements(x.data, x.table, points)
	var all [][]int
	for level := 1; level <= c.Strength; level++ {
		var row []int
		for i := range l {
			n := plainWeight(c, l, i, level)
			if n == 0 {
				continue
			}
			if level == 2 && c.Back {
				row = slices.Concat([]int{n}, row)
			} else {
				row = append(row, n)
			}
		}
		all = append(all, row)
	}
	return all
}

// plainKey is the bytes of such levels.
func plainKey(levels [][]int) string {
	var b strings.Builder
	for _, row := range levels {
		for _, n := range append(slices.Clone(row), 0) {
			b.WriteByte(byte(n / 256))
			b.WriteByte(byte(n % 256))
		}
	}
	return b.String()
}

// plainCompare is the order of two texts by their levels, by the chapter's words.
func plainCompare(a, b [][]int) int {
	for i := range a {
		for j := 0; j < len(a[i]) || j < len(b[i]); j++ {
			switch {
			case j == len(a[i]):
				return -1
			case j == len(b[i]):
				return 1
			case a[i][j] < b[i][j]:
				return -1
			case a[i][j] > b[i][j]:
				return 1
			}
		}
	}
	return 0
}

// texts are all of so many letters, or fewer, of some.
func texts(letters string, most int) []string {
	all := []string{""}
	from := 0
	for range most {
		end := len(all)
		for _, s := range all[from:end] {
			for _, c := range letters {
				all = append(all, s+string(c))
			}
		}
		from = end
	}
	return all
}

// TestLoad is P8.1: the errors of the one text and of the other one, which of them it is, and the line.
func TestLoad(t *testing.T) {
	for _, c := range []struct {
		marks, entries string
		e              api.Errno
		which, line    int
	}{
		{"", "", api.OK, 0, 0},
		{exampleMarks, exampleEntries, api.OK, 0, 0},
		{"#\n\n", "\n#\n", api.OK, 0, 0},
		{"301;230;", "", api.ErrUcdLine, 1, 1},
		{"\n#\n0301;255;", "", api.ErrUcdLine, 1, 3},
		{"0301;1;\n0301;1;", "", api.ErrUcdTwice, 1, 2},
		{"0301;1;\n0041;0;0042\n0042;0;0041", "", api.ErrUcdLoop, 1, 2},
		{"\n0041;0;" + strings.Repeat("0042 ", 18) + "0042", "", api.ErrUcdLong, 1, 2},
		{strings.Repeat("#", 65537), "", api.ErrLong, 1, 0},
		{strings.Repeat("#", 65536), strings.Repeat("#", 65536), api.OK, 0, 0},
		{"", strings.Repeat("#", 65537), api.ErrLong, 2, 0},
		{exampleMarks, "0061;", api.ErrTableLine, 2, 1},
		{"", "\n0", api.ErrTableLine, 2, 2},
		{"", exampleEntries + "\n0062;[.1001.0020.0002]", api.ErrTableTwice, 2, 6},
		{"", "0061;[.1000.0020.0002]\n\n0062;[.FB40.0020.0002]", api.ErrTableWeight, 2, 3},
		{"0301", "0061", api.ErrUcdLine, 1, 1},
		{"\n\n\n0301", strings.Repeat("#", 65537), api.ErrUcdLine, 1, 4},
		{strings.Repeat("#", 65537), "0061", api.ErrLong, 1, 0},
		{"0061;[.1000.0020.0002]", "0301;230;", api.ErrUcdLine, 1, 1},
		{"", "0301;230;", api.ErrTableLine, 2, 1},
	} {
		x, e, which, line := Load(c.marks, c.entries)
		if e != c.e || which != c.which || line != c.line || (x == nil) != (e != api.OK) {
			t.Errorf("Load(%.40q, %.40q) = %v, %d, %d, %d", c.marks, c.entries, x != nil, e, which, line)
		}
	}
}

// TestExamples is P8.2, P8.3: the chapter's own examples, and those of the whole document.
func TestExamples(t *testing.T) {
	x := example(t)
	ab := "1000 1001 0000, 0020 0020 0000, 0002 0002 0000"
	for _, c := range []struct {
		c       api.Collate
		s, want string
	}{
		{api.Collate{Strength: 3}, "ab", ab},
		{api.Collate{Strength: 2}, "\u00e1", "1000 0000, 0020 0024 0000"},
		{api.Collate{Strength: 2}, "a\u0301", "1000 0000, 0020 0024 0000"},
		{api.Collate{Strength: 2, Back: true}, "\u00e1", "1000 0000, 0024 0020 0000"},
		{api.Collate{Strength: 2, Back: true}, "a\u0301", "1000 0000, 0024 0020 0000"},
		{api.Collate{Strength: 3, Shifted: true}, "a b", ab},
		{api.Collate{Strength: 3, Shifted: true}, "ab", ab},
		{api.Collate{Strength: 4, Shifted: true}, "a b", ab + ", FFFF 0209 FFFF 0000"},
		{api.Collate{Strength: 4, Shifted: true}, " \u0301", "0000, 0000, 0000, 0209 0000"},
		{api.Collate{Strength: 2}, "", "0000, 0000"},
		{api.Collate{Strength: 2}, "a", "1000 0000, 0020 0000"},
	} {
		wantKey(t, x, c.c, c.s, bytesOf(c.want))
	}
	wantCompare(t, x, api.Collate{Strength: 2}, "a", "A", 0)
	wantCompare(t, x, api.Collate{Strength: 3}, "a", "A", -1)
	for _, c := range []api.Collate{{Strength: 4}, {}, {Strength: 5}} {
		if s, e := x.Key(c, "a"); s != "" || e != api.ErrArg {
			t.Errorf("%v: %x, %d", c, s, e)
		}
	}
}

// TestKeys is P8.2: the edges that the chapter's words have.
func TestKeys(t *testing.T) {
	x := odd(t)
	plain := func(strength int) api.Collate { return api.Collate{Strength: strength} }
	shifted := func(strength int) api.Collate { return api.Collate{Strength: strength, Shifted: true} }
	back := func(c api.Collate) api.Collate {
		c.Back = true
		return c
	}
	for _, c := range []struct {
		why     string
		c       api.Collate
		s, want string
	}{
		{"the empty text", plain(1), "", "0000"},
		{"the empty text", plain(3), "", "0000 0000 0000"},
		{"the empty text", shifted(4), "", "0000 0000 0000 0000"},
		{"one level", plain(1), "ab", "1000 1001 0000"},
		{"two levels", plain(2), "ab", "1000 1001 0000, 0020 0021 0000"},
		{"weights of nought are left out", plain(3), "a\u0301\u0302\u0323b", "1003 1001 0000, 0020 0024 0021 0000, 0002 0002 0009 0003 0000"},
		{"without a primary weight alone", plain(3), "\u0301", "0000, 0024 0000, 0002 0000"},
		{"without a secondary weight alone", plain(3), "\u0302", "0000, 0000, 0009 0000"},
		{"without any weight", plain(3), "\u0323", "0000, 0000, 0000"},
		{"without any weight, at the level 4", shifted(4), "\u0323", "0000, 0000, 0000, 0000"},
		{"without a primary weight, at the level 4", shifted(4), "\u0301", "0000, 0024 0000, 0002 0000, FFFF 0000"},
		{"without a secondary weight, at the level 4", shifted(4), "\u0302", "0000, 0000, 0009 0000, FFFF 0000"},
		{"the second level turned", back(plain(3)), "ab\u0301", "1000 1001 0000, 0024 0021 0020 0000, 0002 0003 0002 0000"},
		{"no other level is turned", back(shifted(4)), "a -b", "1000 1001 0000, 0021 0020 0000, 0002 0003 0000, FFFF 0209 020A FFFF 0000"},
		{"the first level is not turned", back(plain(1)), "ab", "1000 1001 0000"},
		{"not Shifted: what is variable is as all else", plain(3), "a -", "1000 0209 020A 0000, 0020 0020 0021 0000, 0002 0002 0005 0000"},
		{"Shifted: what is variable is wiped", shifted(3), "a -", "1000 0000, 0020 0000, 0002 0000"},
		{"and stands at the level 4", shifted(4), "a -", "1000 0000, 0020 0000, 0002 0000, FFFF 0209 020A 0000"},
		{"what stands behind it is wiped", shifted(4), " \u0301a", "1000 0000, 0020 0000, 0002 0000, 0209 FFFF 0000"},
		{"all of it", shifted(4), "- \u0301\u0302\u0301a", "1000 0000, 0020 0000, 0002 0000, 020A 0209 FFFF 0000"},
		{"over one without any weight", shifted(4), " \u0323\u0301a", "1000 0000, 0020 0000, 0002 0000, 0209 FFFF 0000"},
		{"not what stands ahead of it", shifted(4), "\u0301 ", "0000, 0024 0000, 0002 0000, FFFF 0209 0000"},
		{"not what stands behind one that has a primary weight", shifted(4), " b\u0301", "1001 0000, 0021 0024 0000, 0003 0002 0000, 0209 FFFF FFFF 0000"},
		{"not Shifted: nothing is wiped", plain(3), " \u0301", "0209 0000, 0020 0024 0000, 0002 0002 0000"},
		{"variable at the next place again", shifted(4), " b \u0301b\u0301", "1001 1001 0000, 0021 0021 0024 0000, 0003 0003 0002 0000, 0209 FFFF 0209 FFFF FFFF 0000"},
		{"two points, one element", plain(2), "cha", "1002 1000 0000, 0020 0020 0000"},
		{"a mark that joins", plain(2), "a\u0301\u0323", "1003 0000, 0020 0024 0000"},
		{"decomposed first", plain(2), "\u00e2", "1003 0000, 0020 0024 0000"},
		{"several elements", plain(3), "x", "1000 1001 0000, 0020 0025 0020 0000, 0002 0002 0004 0000"},
		{"several elements, turned", back(plain(2)), "xb", "1000 1001 1001 0000, 0021 0020 0025 0020 0000"},
		{"wiped within one entry", shifted(4), "y\u0301", "1000 0000, 0020 0024 0000, 0002 0002 0000, 0209 FFFF FFFF 0000"},
		{"wiped from one entry to the next one", shifted(4), "z\u0301y", "1000 0000, 0027 0020 0000, 0003 0002 0000, FFFF 020B 0209 FFFF 0000"},
		{"wiped over the whole of an entry", shifted(4), " z\u0302a", "1000 0000, 0020 0000, 0002 0000, 0209 020B FFFF 0000"},
		{"the least and the greatest weights", plain(3), "01", "0001 FB3F 0000, 0001 FFFF 0000, 0001 FFFF 0000"},
		{"bytes of nought", plain(3), "22", "0100 0100 0000, 0100 0100 0000, 0100 0100 0000"},
		{"the greatest variable one", shifted(4), "3", "0000, 0000, 0000, FB3F 0000"},
		{"implied", plain(3), "\u4e00", "FB40 CE00 0000, 0020 0000, 0002 0000"},
		{"implied, at the level 4", shifted(4), "\u4e00", "FB40 CE00 0000, 0020 0000, 0002 0000, FFFF FFFF 0000"},
		{"implied is not wiped", shifted(4), " \u4e00\u0301", "FB40 CE00 0000, 0020 0024 0000, 0002 0002 0000, 0209 FFFF FFFF FFFF 0000"},
		{"the greatest point", plain(2), "\U0010ffff", "FBE1 FFFF 0000, 0020 0000"},
		{"the point 0", plain(2), "\x00", "FBC0 8000 0000, 0020 0000"},
		{"a syllable", plain(1), "\uac00", "FBC0 9100 FBC0 9161 0000"},
	} {
		if got, e := x.Key(c.c, c.s); got != bytesOf(c.want) || e != api.OK {
			t.Errorf("%s: Key(%v, %q) = %x, %d, not %s", c.why, c.c, c.s, got, e, c.want)
		}
	}
}

// TestCollations is P8.2, P8.3: which collations are right.
func TestCollations(t *testing.T) {
	x := example(t)
	for _, strength := range []int{math.MinInt, -4, -1, 0, 1, 2, 3, 4, 5, 6, 7, 1 << 32, 1<<32 + 1, math.MaxInt} {
		for n := range 4 {
			c := api.Collate{Strength: strength, Shifted: n&1 != 0, Back: n&2 != 0}
			want := api.ErrArg
			if strength >= 1 && strength <= 3 || strength == 4 && c.Shifted {
				want = api.OK
			}
			for _, s := range []string{"", "a", "a \u0301"} {
				k, e := x.Key(c, s)
				if e != want || (k == "") != (e != api.OK) {
					t.Errorf("Key(%v, %q) = %x, %d", c, s, k, e)
				}
				n, e := x.Compare(c, s, "b")
				if e != want || (n == 0) != (e != api.OK) {
					t.Errorf("Compare(%v, %q, b) = %d, %d", c, s, n, e)
				}
			}
		}
	}
}

// TestKeyErrors is P8.2: each error, and which of several it is.
func TestKeyErrors(t *testing.T) {
	right, wrong := api.Collate{Strength: 1}, api.Collate{Strength: 4}
	full, long := strings.Repeat("a", 65536), strings.Repeat("a", 65537)
	for _, c := range []struct {
		x    *Tables
		c    api.Collate
		s    string
		want api.Errno
	}{
		{nil, right, "a", api.ErrNil},
		{nil, right, "", api.ErrNil},
		{nil, wrong, long + "\xff", api.ErrNil},
		{example(t), wrong, "a", api.ErrArg},
		{example(t), wrong, long, api.ErrArg},
		{example(t), wrong, "\xff", api.ErrArg},
		{example(t), right, long, api.ErrLong},
		{example(t), right, long + "\xff", api.ErrLong},
		{example(t), right, "\xff" + full, api.ErrLong},
		{example(t), right, full[1:] + "\xc3\xa1", api.ErrLong},
		{example(t), right, full[1:] + "\xff", api.ErrUtfForm},
		{example(t), right, full[1:] + "\xc3", api.ErrUtfForm},
		{example(t), right, "\xff", api.ErrUtfForm},
		{example(t), right, "a\x80", api.ErrUtfForm},
		{example(t), right, "\xc3", api.ErrUtfForm},
		{example(t), right, "a\xc0\x80", api.ErrUtfForm},
		{example(t), right, "\xed\xa0\x80", api.ErrUtfForm},
		{example(t), right, "\xf4\x90\x80\x80", api.ErrUtfForm},
	} {
		if s, e := c.x.Key(c.c, c.s); s != "" || e != c.want {
			t.Errorf("Key(%v, %.20q of %d) = %.20x, %d, not %d", c.c, c.s, len(c.s), s, e, c.want)
		}
		for _, other := range []string{"a", ""} {
			if n, e := c.x.Compare(c.c, c.s, other); n != 0 || e != c.want {
				t.Errorf("Compare(%v, %.20q of %d, %q) = %d, %d, not %d", c.c, c.s, len(c.s), other, n, e, c.want)
			}
			if n, e := c.x.Compare(c.c, other, c.s); n != 0 || e != c.want {
				t.Errorf("Compare(%v, %q, %.20q of %d) = %d, %d, not %d", c.c, other, c.s, len(c.s), n, e, c.want)
			}
		}
	}
}

// TestCompareErrors is P8.3: the error of the first text stands ahead of that of the second one, whichever they are.
func TestCompareErrors(t *testing.T) {
	x := example(t)
	c := api.Collate{Strength: 1}
	bad, long := "\xff", strings.Repeat("a", 65537)
	for _, y := range []struct {
		a, b string
		want api.Errno
	}{
		{bad, long, api.ErrUtfForm},
		{long, bad, api.ErrLong},
		{bad, bad, api.ErrUtfForm},
		{long, long, api.ErrLong},
	} {
		if n, e := x.Compare(c, y.a, y.b); n != 0 || e != y.want {
			t.Errorf("%.10q, %.10q: %d, %d, not %d", y.a, y.b, n, e, y.want)
		}
	}
}

// TestLongTexts is P8.2, P8.3: texts of 65536 bytes are weighed, in a bearable time, whatever stands in them.
func TestLongTexts(t *testing.T) {
	x := odd(t)
	c := api.Collate{Strength: 4, Shifted: true, Back: true}
	wantKey(t, x, c, strings.Repeat("a", 65536), strings.Repeat("\x10\x00", 65536)+"\x00\x00"+strings.Repeat("\x00\x20", 65536)+"\x00\x00"+strings.Repeat("\x00\x02", 65536)+"\x00\x00"+strings.Repeat("\xff\xff", 65536)+"\x00\x00")
	wantKey(t, x, c, " "+strings.Repeat("\u0301", 32767)+"\x20", "\x00\x00\x00\x00\x00\x00\x02\x09\x02\x09\x00\x00")
	wantKey(t, x, c, strings.Repeat("\u0323", 32768), bytesOf("0000 0000 0000 0000"))
	wantKey(t, x, api.Collate{Strength: 2}, strings.Repeat("\u0301\u0323", 16384), "\x00\x00"+strings.Repeat("\x00\x24", 16384)+"\x00\x00")
	// each piece begins with a primary weight, so that what stands ahead of it is nothing to it: its levels come again and again
	for _, piece := range []string{"ab \u0301", "\u00e2\u0302", "y", "x\u0323z\u0302", "\u4e00", "\U0010ffff", "\uac01", " \u0323-"} {
		count := 65536 / len(piece)
		for _, c := range []api.Collate{{Strength: 3}, {Strength: 4, Shifted: true, Back: true}} {
			levels := plainLevels(t, x, c, piece)
			for i, row := range levels {
				levels[i] = slices.Repeat(row, count)
			}
			wantKey(t, x, c, strings.Repeat(piece, count), plainKey(levels))
		}
	}
	a := strings.Repeat("a", 65535)
	wantCompare(t, x, c, a+"a", a+"b", -1)
	wantCompare(t, x, c, a+"a", a, 1)
	wantCompare(t, x, c, a+"a", a+"A", -1)
	if is, e := x.Same(a+"a", a+"a"); !is || e != api.OK {
		t.Error(is, e)
	}
	if is, e := x.Same(a+"a", a+"b"); is || e != api.OK {
		t.Error(is, e)
	}
}

// TestCompare is P8.3: by the first level that is not the same, in that by the first weights; a beginning stands ahead.
func TestCompare(t *testing.T) {
	x := odd(t)
	for _, c := range []struct {
		why  string
		c    api.Collate
		a, b string
		want int
	}{
		{"nothing and nothing", api.Collate{Strength: 3}, "", "", 0},
		{"nothing is a beginning", api.Collate{Strength: 1}, "", "a", -1},
		{"a beginning", api.Collate{Strength: 1}, "a", "ab", -1},
		{"a beginning, of a lesser weight behind it", api.Collate{Strength: 1}, "b", "ba", -1},
		{"a beginning at the level 2", api.Collate{Strength: 2}, "a", "a\u0301", -1},
		{"and not at the level 1", api.Collate{Strength: 1}, "a", "a\u0301", 0},
		{"a beginning at the level 3", api.Collate{Strength: 3}, "a", "a\u0302", -1},
		{"and not at the level 2", api.Collate{Strength: 2}, "a", "a\u0302", 0},
		{"a beginning at the level 4", api.Collate{Strength: 4, Shifted: true}, "a", "a ", -1},
		{"and not at the level 3", api.Collate{Strength: 3, Shifted: true}, "a", "a ", 0},
		{"the level 4: what is variable stands ahead", api.Collate{Strength: 4, Shifted: true}, "a b", "ab ", -1},
		{"the level 4: by the variable weights", api.Collate{Strength: 4, Shifted: true}, "a-b", "a b", 1},
		{"the level 1 stands ahead of the level 2", api.Collate{Strength: 3}, "a\u0301a", "aab", -1},
		{"the level 2 stands ahead of the level 3", api.Collate{Strength: 3}, "Aa", "aa\u0301", -1},
		{"the first weights, not the last", api.Collate{Strength: 2}, "a\u0301a", "aa\u0301", 1},
		{"the last ones, if it is turned", api.Collate{Strength: 2, Back: true}, "a\u0301a", "aa\u0301", -1},
		{"weights by what they are, not by their lower bytes", api.Collate{Strength: 1}, "2", "0", 1},
		{"two spellings", api.Collate{Strength: 4, Shifted: true}, "\u00e2", "a\u0323\u0301", 0},
		{"what is variable counts, if it is not Shifted", api.Collate{Strength: 1}, "a b", "ab", -1},
		{"and not if it is", api.Collate{Strength: 1, Shifted: true}, "a b", "ab", 0},
		{"unlike texts that weigh nothing", api.Collate{Strength: 4, Shifted: true}, "\u0323\u0323", "", 0},
	} {
		n, e := x.Compare(c.c, c.a, c.b)
		m, f := x.Compare(c.c, c.b, c.a)
		if n != c.want || m != -c.want || e != api.OK || f != api.OK {
			t.Errorf("%s: Compare(%v, %q, %q) = %d, %d and %d, %d, not %d", c.why, c.c, c.a, c.b, n, e, m, f, c.want)
		}
	}
}

// TestAllShort is P8.2: all short texts have the key that the chapter's words give.
func TestAllShort(t *testing.T) {
	x := odd(t)
	for _, s := range texts("ab yz\u0301\u0302\u0323\u4e00", 4) {
		for _, c := range collations() {
			wantKey(t, x, c, s, plainKey(plainLevels(t, x, c, s)))
		}
	}
}

// TestOrder is P8.3, P8.5: of all pairs of short texts Compare is what the chapter's words say, and how the keys stand by their bytes; no key begins another one.
func TestOrder(t *testing.T) {
	x := odd(t)
	all := texts("ab \u0301\u0302\u0323", 3)
	for _, c := range collations() {
		var keys []string
		var levels [][][]int
		for _, s := range all {
			keys = append(keys, key(t, x, c, s))
			levels = append(levels, plainLevels(t, x, c, s))
		}
		for i, a := range all {
			for j, b := range all[:i+1] {
				want := plainCompare(levels[i], levels[j])
				wantCompare(t, x, c, a, b, want)
				if strings.Compare(keys[i], keys[j]) != want {
					t.Fatalf("%v: %q, %q: keys %x, %x stand otherwise than %d", c, a, b, keys[i], keys[j], want)
				}
				if keys[i] != keys[j] && (strings.HasPrefix(keys[i], keys[j]) || strings.HasPrefix(keys[j], keys[i])) {
					t.Fatalf("%v: %q, %q: one of the keys %x, %x begins the other one", c, a, b, keys[i], keys[j])
				}
			}
		}
	}
}

// TestStrength is P8.5: with a greater Strength what was unlike stays so, the same way round, and a lesser key begins a greater one.
func TestStrength(t *testing.T) {
	x := odd(t)
	all := texts("aA \u0301\u0302", 3)
	told := 0
	for _, c := range collations() {
		more := c
		more.Strength++
		if !isRight(more) {
			continue
		}
		for _, a := range all {
			if !strings.HasPrefix(key(t, x, more, a), key(t, x, c, a)) {
				t.Fatalf("%v: %q", c, a)
			}
			for _, b := range all {
				n, _ := x.Compare(c, a, b)
				m, _ := x.Compare(more, a, b)
				if n != 0 && m != n {
					t.Fatalf("%v: %q, %q: %d, then %d", c, a, b, n, m)
				}
				if n == 0 && m != 0 {
					told++
				}
			}
		}
	}
	if told == 0 {
		t.Error("no greater Strength told more: the test tells nothing")
	}
}

// world is tables of some sort, and the letters of its texts.
type world struct {
	x       *Tables
	letters []string
}

// someElement is one that is right, of few weights, so that many are alike.
func someElement(r *rand.Rand) string {
	primary, secondary, tertiary := 0x1000+r.Intn(3), 0x20+r.Intn(3), 2+r.Intn(3)
	switch r.Intn(8) {
	case 0, 1:
		return fmt.Sprintf("[*%04X.%04X.%04X]", primary-0xe00, secondary, tertiary)
	case 2, 3:
		return fmt.Sprintf("[.0000.%04X.%04X]", secondary, tertiary)
	case 4:
		return fmt.Sprintf("[.0000.0000.%04X]", tertiary)
	case 5:
		return "[.0000.0000.0000]"
	}
	return fmt.Sprintf("[.%04X.%04X.%04X]", primary, secondary, tertiary)
}

func someWorld(t *testing.T, r *rand.Rand) world {
	t.Helper()
	marks := []string{"00E1;0;0061 0302 0300", "00E2;0;00E1 0301"}
	for n := range 4 {
		marks = append(marks, fmt.Sprintf("030%d;%d;", n, r.Intn(4)))
	}
	entries := map[string]string{}
	for range 16 {
		var points []string
		for range 1 + r.Intn(1+r.Intn(3)) {
			points = append(points, []string{"0061", "0062", "0063", "0300", "0301", "0302", "0303"}[r.Intn(7)])
		}
		var elements string
		for range 1 + r.Intn(3) {
			elements += someElement(r)
		}
		entries[strings.Join(points, " ")] = elements
	}
	var lines []string
	for points, elements := range entries {
		lines = append(lines, points+";"+elements)
	}
	slices.Sort(lines)
	return world{load(t, strings.Join(marks, "\n"), strings.Join(lines, "\n")), strings.Split("abc\u00e1\u00e2\u0300\u0301\u0302\u0303\u4e00\uac01", "")}
}

func (w world) text(r *rand.Rand, n int) string {
	var s string
	for range n {
		s += w.letters[r.Intn(len(w.letters))]
	}
	return s
}

// spelt is another spelling of a text: decomposed, and neighbours changed that may be.
func (w world) spelt(t *testing.T, r *rand.Rand, s string) string {
	t.Helper()
	points, _, _ := utf.Points(s)
	l := normal.Form(w.x.data, points)
	for range 4 * len(l) {
		if len(l) < 2 {
			break
		}
		i := r.Intn(len(l) - 1)
		a, b := w.x.data.Class(l[i]), w.x.data.Class(l[i+1])
		if a != 0 && b != 0 && a != b {
			l[i], l[i+1] = l[i+1], l[i]
		}
	}
	other, e, _ := utf.Text(l)
	if e != api.OK {
		t.Fatal(e)
	}
	return other
}

// TestSomeTexts is P8.2, P8.3, P8.5: longer texts, by tables of many sorts.
func TestSomeTexts(t *testing.T) {
	r := rand.New(rand.NewSource(8))
	for range 100 {
		w := someWorld(t, r)
		for range 10 {
			a, b := w.text(r, r.Intn(20)), w.text(r, r.Intn(4))
			// texts that begin alike are told apart late
			b = a[:len(a)-len(a)%7%4] + b
			if utf.Check(b) >= 0 {
				b = a
			}
			for _, c := range collations() {
				p, q := plainLevels(t, w.x, c, a), plainLevels(t, w.x, c, b)
				wantKey(t, w.x, c, a, plainKey(p))
				wantKey(t, w.x, c, b, plainKey(q))
				wantCompare(t, w.x, c, a, b, plainCompare(p, q))
				if n := strings.Compare(plainKey(p), plainKey(q)); n != plainCompare(p, q) {
					t.Fatalf("%v: %q, %q: %d", c, a, b, n)
				}
			}
		}
	}
}

// TestSpellings is P8.4, P8.5: texts that are Same have one key and compare as 0, by all collations.
func TestSpellings(t *testing.T) {
	r := rand.New(rand.NewSource(9))
	unlike := 0
	for range 100 {
		w := someWorld(t, r)
		for range 10 {
			a := w.text(r, r.Intn(20))
			b := w.spelt(t, r, a)
			if is, e := w.x.Same(a, b); !is || e != api.OK {
				t.Fatalf("Same(%q, %q) = %v, %d", a, b, is, e)
			}
			for _, c := range collations() {
				wantCompare(t, w.x, c, a, b, 0)
				wantKey(t, w.x, c, b, key(t, w.x, c, a))
			}
			if a != b {
				unlike++
			}
		}
	}
	if unlike == 0 {
		t.Error("no text had two spellings: the test tells nothing")
	}
}

// TestTransitive is P8.5: Compare is an order; sorted by it, all texts stand in the order of their keys.
func TestTransitive(t *testing.T) {
	x := odd(t)
	all := texts("ab -\u0301\u0302", 3)
	for _, c := range collations() {
		sorted := slices.Clone(all)
		slices.SortStableFunc(sorted, func(a, b string) int {
			n, _ := x.Compare(c, a, b)
			return n
		})
		for i := range sorted {
			j := i + 1 + i*7%97
			if j < len(sorted) {
				if n, e := x.Compare(c, sorted[i], sorted[j]); n > 0 || e != api.OK {
					t.Fatalf("%v: %q, %q: %d, %d", c, sorted[i], sorted[j], n, e)
				}
			}
			if i > 0 && key(t, x, c, sorted[i-1]) > key(t, x, c, sorted[i]) {
				t.Fatalf("%v: %q, %q", c, sorted[i-1], sorted[i])
			}
		}
	}
}

// TestSame is P8.4: normal.Same of the points, whatever they weigh; and its errors.
func TestSame(t *testing.T) {
	x := odd(t)
	for _, c := range []struct {
		a, b string
		want bool
	}{
		{"", "", true},
		{"", "a", false},
		{"a", "a", true},
		{"a", "A", false},
		{"\u00e1", "a\u0301", true},
		{"\u00e2", "a\u0301\u0323", true},
		{"\u00e2", "a\u0323\u0301", true},
		{"\u00e2", "\u00e1\u0323", true},
		{"\u00e2", "\u00e1", false},
		{"a\u0301\u0302", "a\u0302\u0301", false},
		{"\uac01", "\u1100\u1161\u11a8", true},
		{"\u0323", "", false},
		{"\u0323", "\u0323\u0323", false},
		{" ", "y", false},
	} {
		if is, e := x.Same(c.a, c.b); is != c.want || e != api.OK {
			t.Errorf("Same(%q, %q) = %v, %d", c.a, c.b, is, e)
		}
		if is, e := x.Same(c.b, c.a); is != c.want || e != api.OK {
			t.Errorf("Same(%q, %q) = %v, %d", c.b, c.a, is, e)
		}
	}
	bad, long := "a\xff", strings.Repeat("a", 65537)
	for _, c := range []struct {
		x    *Tables
		a, b string
		want api.Errno
	}{
		{nil, "", "", api.ErrNil},
		{nil, bad, long, api.ErrNil},
		{x, long, "a", api.ErrLong},
		{x, "a", long, api.ErrLong},
		{x, long, long, api.ErrLong},
		{x, bad, long, api.ErrLong},
		{x, long, bad, api.ErrLong},
		{x, bad, "a", api.ErrUtfForm},
		{x, "a", bad, api.ErrUtfForm},
		{x, bad, bad, api.ErrUtfForm},
		{x, "", "\xc3", api.ErrUtfForm},
	} {
		if is, e := c.x.Same(c.a, c.b); is || e != c.want {
			t.Errorf("Same(%.10q, %.10q) = %v, %d, not %d", c.a, c.b, is, e, c.want)
		}
	}
}

// TestSamePairs is P8.4: Same of all pairs of short texts is that of their points.
func TestSamePairs(t *testing.T) {
	x := odd(t)
	all := texts("a\u00e1\u00e2\u0301\u0323\u0302", 3)
	for _, a := range all {
		for _, b := range all {
			p, _, _ := utf.Points(a)
			q, _, _ := utf.Points(b)
			if is, e := x.Same(a, b); is != normal.Same(x.data, p, q) || e != api.OK {
				t.Fatalf("Same(%q, %q) = %v, %d", a, b, is, e)
			}
		}
	}
}

// TestTexts is P8.4: both texts, sorted and without the lines that say nothing, and no longer than those that were read.
func TestTexts(t *testing.T) {
	for _, c := range []struct{ marks, entries, wantMarks, wantEntries string }{
		{"", "", "", ""},
		{"#\n\n", "\n\n#x", "", ""},
		{exampleMarks, "", "00E1;0;0061 0301\n0301;230;", ""},
		{"", "0062;[.1001.0020.0002]\n\n0061 0062;[*0209.0020.0002][.0000.0000.0000]\n0061;[.0000.0024.0002]", "", "0061;[.0000.0024.0002]\n0061 0062;[*0209.0020.0002][.0000.0000.0000]\n0062;[.1001.0020.0002]"},
		{"#\n10FFFF;254;\n", "#\n10FFFF;[.FB3F.FFFF.FFFF]\n#", "10FFFF;254;", "10FFFF;[.FB3F.FFFF.FFFF]"},
	} {
		marks, entries := load(t, c.marks, c.entries).Texts()
		if marks != c.wantMarks || entries != c.wantEntries {
			t.Errorf("%q, %q: %q, %q", c.marks, c.entries, marks, entries)
		}
	}
	var x *Tables
	if marks, entries := x.Texts(); marks != "" || entries != "" {
		t.Errorf("of nil: %q, %q", marks, entries)
	}
}

// TestFullTexts is P8.1, P8.4, P8.6: texts of 65536 bytes without a line that says nothing are read, and told whole.
func TestFullTexts(t *testing.T) {
	lines := func(short, long int, rest string) string {
		var l []string
		for n := range short {
			l = append(l, fmt.Sprintf("%04X;%s", 0x1200+n, rest))
		}
		for n := range long {
			l = append(l, fmt.Sprintf("%04X;%s", 0x10000+n, rest))
		}
		return strings.Join(l, "\n")
	}
	marks, entries := lines(2957, 21, "9;0061 0061 0061"), lines(2839, 10, "[.1000.0020.0002]")
	if len(marks) != api.MaxText || len(entries) != api.MaxText {
		t.Fatal(len(marks), len(entries))
	}
	x := load(t, marks, entries)
	m, n := x.Texts()
	if m != marks || n != entries {
		t.Errorf("%d, %d bytes", len(m), len(n))
	}
	wantKey(t, load(t, m, n), api.Collate{Strength: 1}, "\u1200", bytesOf("FBC0 8061 FBC0 8061 FBC0 8061 0000"))
	if _, e, which, line := Load(marks+"\n", entries+"\n"); e != api.ErrLong || which != 1 || line != 0 {
		t.Error(e, which, line)
	}
	if _, e, which, line := Load(marks, entries+"\n"); e != api.ErrLong || which != 2 || line != 0 {
		t.Error(e, which, line)
	}
}

// TestThereAndBack is P8.6: Load of what Texts tells gives the same keys, and the same texts.
func TestThereAndBack(t *testing.T) {
	r := rand.New(rand.NewSource(10))
	for range 50 {
		w := someWorld(t, r)
		marks, entries := w.x.Texts()
		again := load(t, marks, entries)
		if m, n := again.Texts(); m != marks || n != entries {
			t.Fatalf("%q, %q, then %q, %q", marks, entries, m, n)
		}
		for range 20 {
			a, b := w.text(r, r.Intn(20)), w.text(r, r.Intn(20))
			for _, c := range collations() {
				wantKey(t, again, c, a, key(t, w.x, c, a))
				n, _ := w.x.Compare(c, a, b)
				wantCompare(t, again, c, a, b, n)
			}
		}
	}
	x := odd(t)
	marks, entries := x.Texts()
	again := load(t, marks, entries)
	for _, s := range texts("ab yz\u0301\u0302\u0323", 3) {
		for _, c := range collations() {
			wantKey(t, again, c, s, key(t, x, c, s))
		}
	}
}

// TestNil is R2: of nil tables ErrNil, and nothing else; of Texts nothing.
func TestNil(t *testing.T) {
	var x *Tables
	for _, c := range append(collations(), api.Collate{}, api.Collate{Strength: 9}) {
		for _, s := range []string{"", "a", "\xff", strings.Repeat("a", 65537)} {
			if k, e := x.Key(c, s); k != "" || e != api.ErrNil {
				t.Errorf("Key: %x, %d", k, e)
			}
			if n, e := x.Compare(c, s, "b"); n != 0 || e != api.ErrNil {
				t.Errorf("Compare: %d, %d", n, e)
			}
			if is, e := x.Same(s, s); is || e != api.ErrNil {
				t.Errorf("Same: %v, %d", is, e)
			}
		}
	}
}

// TestApart is R2: tables know nothing of one another, and what they answer hangs on no call ahead.
func TestApart(t *testing.T) {
	x, y, none := example(t), odd(t), load(t, "", "")
	c := api.Collate{Strength: 4, Shifted: true}
	ask := func() string {
		var b strings.Builder
		for _, z := range []*Tables{x, y, none} {
			for _, s := range []string{"", "a", "\u00e2", " \u0301x", "\xff"} {
				k, e := z.Key(c, s)
				n, f := z.Compare(c, s, "b")
				is, g := z.Same(s, "a\u0301")
				m, l := z.Texts()
				fmt.Fprintf(&b, "%x %d %d %d %v %d %s %s\n", k, e, n, f, is, g, m, l)
			}
		}
		return b.String()
	}
	first := ask()
	for range 3 {
		if again := ask(); again != first {
			t.Fatalf("%s, then %s", first, again)
		}
	}
	if is, e := none.Same("\u00e1", "a\u0301"); is || e != api.OK {
		t.Error(is, e)
	}
	wantKey(t, none, c, "a", bytesOf("FBC0 8061 0000, 0020 0000, 0002 0000, FFFF FFFF 0000"))
}

// TestSharedNothing is R2: what the tables stand on is their own, so that no list that the layers below hand out changes them.
func TestSharedNothing(t *testing.T) {
	x := odd(t)
	d, _, _ := ucd.Load(oddMarks)
	l, _, _ := table.Load(oddEntries)
	c := api.Collate{Strength: 4, Shifted: true, Back: true}
	want := key(t, x, c, "x \u0301yz\u00e2ch")
	for _, m := range slices.Concat(d.Marks(), x.data.Marks()) {
		for i := range m.Parts {
			m.Parts[i] = 7
		}
	}
	for _, y := range slices.Concat(l.Entries(), x.table.Entries()) {
		for i := range y.Elements {
			y.Elements[i] = api.Element{Primary: 7}
		}
	}
	wantKey(t, x, c, "x \u0301yz\u00e2ch", want)
}
