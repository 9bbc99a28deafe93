package table

import (
	"fmt"
	"math"
	"math/rand"
	"regexp"
	"slices"
	"strconv"
	"strings"
	"testing"

	"dovetail/api"
)

const (
	example = "0061;[.1C47.0020.0002]\n0063 0068;[.1C7A.0020.0002]\n0020;[*0209.0020.0002]\n0301;[.0000.0024.0002]"
	one     = "[.0001.0001.0001]"
)

// load is what Load takes.
func load(t *testing.T, text string) *Table {
	t.Helper()
	x, e, line := Load(text)
	if x == nil || e != api.OK || line != 0 {
		t.Fatalf("Load(%.80q) = %v, %d, %d", text, x != nil, e, line)
	}
	return x
}

// wantError is what Load refuses.
func wantError(t *testing.T, text string, want api.Errno, at int) {
	t.Helper()
	if x, e, line := Load(text); x != nil || e != want || line != at {
		t.Errorf("Load(%.80q), %d bytes = %v, %d, %d, not %d, %d", text, len(text), x != nil, e, line, want, at)
	}
}

// wantFound holds Find against the elements of an entry.
func wantFound(t *testing.T, x *Table, points []int, want ...api.Element) {
	t.Helper()
	if l, is := x.Find(points); !is || !slices.Equal(l, want) {
		t.Errorf("Find(%x) = %v, %v, not %v", points, l, is, want)
	}
}

// wantNone is what Find does not find.
func wantNone(t *testing.T, x *Table, points ...int) {
	t.Helper()
	if l, is := x.Find(points); is || len(l) != 0 {
		t.Errorf("Find(%x) = %v, %v", points, l, is)
	}
}

// wantPrint holds Print against a text.
func wantPrint(t *testing.T, l []api.Entry, want string) {
	t.Helper()
	if s, e := Print(l); s != want || e != api.OK {
		t.Errorf("Print of %d = %.80q, %d, not %.80q", len(l), s, e, want)
	}
}

// wantNoPrint is what Print refuses.
func wantNoPrint(t *testing.T, l []api.Entry, want api.Errno) {
	t.Helper()
	if s, e := Print(l); s != "" || e != want {
		t.Errorf("Print of %d (%.200s) = %.80q, %d, not %d", len(l), fmt.Sprint(l), s, e, want)
	}
}

// sameEntries tells whether two lists are the same.
func sameEntries(a, b []api.Entry) bool {
	return slices.EqualFunc(a, b, func(x, y api.Entry) bool {
		return slices.Equal(x.Points, y.Points) && slices.Equal(x.Elements, y.Elements)
	})
}

// isOne tells whether a number is a point, by other means than the package's.
func isOne(n int) bool { return n >= 0 && n < 0xd800 || n > 0xdfff && n <= 0x10ffff }

// mayWeigh tells whether an element is right, as the chapter's words stand.
func mayWeigh(e api.Element) bool {
	for _, w := range []int{e.Primary, e.Secondary, e.Tertiary} {
		if w < 0 || w > 0xffff {
			return false
		}
	}
	if e.Primary > 0xfb3f {
		return false
	}
	if e.Primary != 0 {
		return e.Secondary != 0 && e.Tertiary != 0
	}
	return !e.Variable && (e.Secondary == 0 || e.Tertiary != 0)
}

// lineOf is an entry's line, by the library's printing.
func lineOf(e api.Entry) string {
	var points []string
	for _, p := range e.Points {
		points = append(points, fmt.Sprintf("%04X", p))
	}
	s := strings.Join(points, " ") + ";"
	for _, x := range e.Elements {
		sign := "."
		if x.Variable {
			sign = "*"
		}
		s += fmt.Sprintf("[%s%04X.%04X.%04X]", sign, x.Primary, x.Secondary, x.Tertiary)
	}
	return s
}

// linesOf is the text of entries.
func linesOf(l []api.Entry) string {
	var all []string
	for _, e := range l {
		all = append(all, lineOf(e))
	}
	return strings.Join(all, "\n")
}

// singles are entries of one point each, from one on.
func singles(from, n int) []api.Entry {
	var l []api.Entry
	for i := range n {
		l = append(l, api.Entry{Points: []int{from + i}, Elements: []api.Element{{Primary: 1 + i, Secondary: 2, Tertiary: 3}}})
	}
	return l
}

// wrongNumbers are those that are no points.
func wrongNumbers() []int {
	return []int{
		math.MinInt, -0x10ffff, -0x61, -2, -1, 0xd800, 0xdbff, 0xdc00, 0xdfff,
		0x110000, 0x110061, 0xffffff, 1 << 32, 1<<32 + 0x61, 1<<32 - 1, math.MaxInt,
	}
}

// someEntries are entries in no order, of few points, so that many rows begin others; no two of the same points.
func someEntries(r *rand.Rand, n int) []api.Entry {
	points := []int{0, 1, 0x61, 0xffff, 0x10000, 0xd7ff, 0xe000, 0xac00, 0x10ffff}
	weights := []int{1, 2, 0x20, 0xff, 0x100, 0xfff, 0x1000, 0xabcd, 0xfb3f}
	seen := map[string]int{}
	var l []api.Entry
	for range n {
		var e api.Entry
		for range 1 + r.Intn(8) {
			e.Points = append(e.Points, points[r.Intn(len(points))])
		}
		for range 1 + r.Intn(16) {
			x := api.Element{Tertiary: r.Intn(0x10000)}
			if r.Intn(3) > 0 {
				x = api.Element{Secondary: weights[r.Intn(9)], Tertiary: weights[r.Intn(9)]}
			}
			if x.Secondary > 0 && r.Intn(3) > 0 {
				x.Primary, x.Variable = weights[r.Intn(9)], r.Intn(2) == 0
			}
			e.Elements = append(e.Elements, x)
		}
		if seen[fmt.Sprint(e.Points)]++; seen[fmt.Sprint(e.Points)] == 1 {
			l = append(l, e)
		}
	}
	return l
}

// TestExamples is P6.1 and P6.2, by the chapter's own examples.
func TestExamples(t *testing.T) {
	x := load(t, example)
	wantFound(t, x, []int{0x61}, api.Element{Primary: 0x1c47, Secondary: 0x20, Tertiary: 2})
	wantFound(t, x, []int{0x63, 0x68}, api.Element{Primary: 0x1c7a, Secondary: 0x20, Tertiary: 2})
	wantFound(t, x, []int{0x20}, api.Element{Variable: true, Primary: 0x209, Secondary: 0x20, Tertiary: 2})
	wantFound(t, x, []int{0x301}, api.Element{Secondary: 0x24, Tertiary: 2})
	wantNone(t, x, 0x63)
	if x.Longest(0x63) != 2 || x.Longest(0x61) != 1 || x.Longest(0x68) != 0 {
		t.Error(x.Longest(0x63), x.Longest(0x61), x.Longest(0x68))
	}
	for _, s := range []string{
		"0061;", ";" + one, "61;" + one, "0061 ;" + one, "0061;[.1.0001.0001]", "0061;[.0001.0001]",
		"0061" + strings.Repeat(" 0061", 8) + ";" + one, "0061;" + strings.Repeat(one, 17), "DC00;" + one,
	} {
		wantError(t, s, api.ErrTableLine, 1)
	}
	for _, s := range []string{"0061;[.FB40.0020.0002]", "0061;[.0001.0000.0002]", "0061;[.0000.0001.0000]", "0061;[*0000.0001.0001]"} {
		wantError(t, s, api.ErrTableWeight, 1)
	}
	wantError(t, "0061;[.0000.0000.0000]\n0061;"+one, api.ErrTableTwice, 2)
}

// TestSaysNothing is P6.1 of texts and lines that say nothing.
func TestSaysNothing(t *testing.T) {
	for _, s := range []string{"", "#", "\n", "\n\n", "#0061;" + one, "#\n\n#", "#;[", "##\xff\x00", strings.Repeat("\n", api.MaxText)} {
		x := load(t, s)
		if l := x.Entries(); len(l) != 0 || x.Longest(0x61) != 0 || x.Longest(0) != 0 {
			t.Errorf("%.20q: %v", s, l)
		}
		wantNone(t, x)
		wantNone(t, x, 0)
		wantNone(t, x, 0x61)
	}
	with := load(t, "\n#\n0301;"+one+"\n\n# 0301;\n0041;"+one+"\n#\n\n")
	without := load(t, "0301;"+one+"\n0041;"+one)
	if !sameEntries(with.Entries(), without.Entries()) || len(with.Entries()) != 2 {
		t.Error(with.Entries())
	}
	for _, s := range []string{" ", " #", "\r", "\t#", "0301;" + one + "#", "0301;" + one + " ", "0301;" + one + "\r", ";", ";;", "[", "//"} {
		wantError(t, s, api.ErrTableLine, 1)
		wantError(t, "\n#\n0041;"+one+"\n"+s+"\n0042;"+one, api.ErrTableLine, 4)
	}
}

// TestEveryPoint is P6.1 of each number, first and behind another one, with the digits that it has; and P6.2 of it.
func TestEveryPoint(t *testing.T) {
	for n := range 0x110100 {
		if n > 0x10100 && n%7 != 0 && n&0xffff > 2 && n < 0x10fff0 { // far from any edge some are enough
			continue
		}
		for _, l := range [][]int{{n}, {0x61, n}} {
			s := lineOf(api.Entry{Points: l, Elements: []api.Element{{Primary: 1, Secondary: 1, Tertiary: 1}}})
			x, e, line := Load(s)
			if !isOne(n) {
				if x != nil || e != api.ErrTableLine || line != 1 {
					t.Fatalf("Load(%s): %d, %d", s, e, line)
				}
				continue
			}
			if x == nil || e != api.OK || x.Longest(l[0]) != len(l) || !slices.Equal(x.Entries()[0].Points, l) {
				t.Fatalf("Load(%s): %d, %d", s, e, line)
			}
			if _, is := x.Find(l); !is {
				t.Fatalf("Find(%x)", l)
			}
		}
	}
}

// TestDigits is P6.1 of digits that are not the one way in which a point or a weight is written.
func TestDigits(t *testing.T) {
	for _, s := range []string{
		"", "1", "61", "061", "00061", "000061", "0FFFF", "01000F", "0000061", "10FFFF0", "010FFFF", "110000", "FFFFFF",
		"00e1", "00g1", "00G1", "00:1", "00/1", "00@1", "+061", "-061", "0x61", "U+0061", "006 1", "006\xc2", "D800", "DFFF",
		"0061  0062", " 0061", "0061 ", "0061,0062", "0061\t0062", "0061 62", "0061 00062", "00 61",
		"100000000000000061", "FFFFFFFFFFFFFFFF", "FFFFFFFFFFFFFFFFFFFFFFFF",
	} {
		wantError(t, s+";"+one, api.ErrTableLine, 1)
	}
	for _, w := range []string{"", "1", "01", "001", "00001", "00g1", "00a1", "000a", "+001", "-001", " 001", "001 ", "0x01", "0_01", "00.1", "0;01", "00:1", "00/1", "00@1", "00G1", "é01"} {
		for _, s := range []string{"[." + w + ".0001.0001]", "[.0001." + w + ".0001]", "[.0001.0001." + w + "]"} {
			wantError(t, "0061;"+s, api.ErrTableLine, 1)
			wantError(t, "0061;"+one+s, api.ErrTableLine, 1)
		}
	}
	for _, s := range []string{
		"0061" + one, "0061;;" + one, "0061;" + one + ";", "0061; " + one, "0061 ;" + one, "0061;" + one + " " + one, "0061;.0001.0001.0001",
		"0061;[.0001.0001.0001", "0061;.0001.0001.0001]", "0061;[0001.0001.0001]", "0061;[0001.0001.0001.]", "0061;[-0001.0001.0001]",
		"0061;[.0001.0001.0001.0001]", "0061;[.0001.0001]", "0061;[.0001]", "0061;[]", "0061;[.]", "0061;[..0001.0001.0001]", "0061;[.*0001.0001.0001]",
		"0061;[.0001*0001.0001]", "0061;[.0001.0001*0001]", "0061;(.0001.0001.0001)", "0061;[.000100000010001]", "0061;[.0001.000100001]",
		"0061;[.00010.001.0001]", "0061;[.001.00010.0001]", "0061;[.0001.00010.001]", "0061;[.00.01.0001.001]", "0061;" + one + "[", "0061;" + one + one[1:],
	} {
		wantError(t, s, api.ErrTableLine, 1)
	}
}

// TestAgainstExpression is P6.1 of all lines that are one byte away from some that are right, held against the library's expressions.
func TestAgainstExpression(t *testing.T) {
	point := `(?:[0-9A-F]{4}|[1-9A-F][0-9A-F]{4}|10[0-9A-F]{4})`
	line := regexp.MustCompile(`^(` + point + `(?: ` + point + `){0,7});((?:\[[.*][0-9A-F]{4}\.[0-9A-F]{4}\.[0-9A-F]{4}\]){1,16})$`)
	element := regexp.MustCompile(`\[([.*])(....)\.(....)\.(....)\]`)
	hex := func(s string) int { n, _ := strconv.ParseInt(s, 16, 64); return int(n) }
	judge := func(s string) api.Errno {
		if s == "" || s[0] == '#' {
			return api.OK
		}
		m := line.FindStringSubmatch(s)
		if m == nil {
			return api.ErrTableLine
		}
		for _, p := range strings.Split(m[1], " ") {
			if !isOne(hex(p)) {
				return api.ErrTableLine
			}
		}
		for _, x := range element.FindAllStringSubmatch(m[2], -1) {
			if !mayWeigh(api.Element{Variable: x[1] == "*", Primary: hex(x[2]), Secondary: hex(x[3]), Tertiary: hex(x[4])}) {
				return api.ErrTableWeight
			}
		}
		return api.OK
	}
	check := func(s string) {
		want, at := judge(s), 1
		if want == api.OK {
			at = 0
		}
		if x, e, line := Load(s); e != want || line != at || (x == nil) == (e == api.OK) {
			t.Fatalf("Load(%q) = %d, %d, not %d", s, e, line, want)
		}
	}
	for _, s := range []string{
		"0061;" + one, "0020;[*0209.0020.0002]", "10FFFF;[.0000.0000.0000]", "0063 10068;[.FB3F.FFFF.FFFF][.0000.0024.0002]",
		"D7FF E000;[.0000.0000.0002]", "0061" + strings.Repeat(" FFFF", 7) + ";" + one, "0061;" + strings.Repeat(one, 16),
	} {
		for at := range len(s) {
			check(s[:at] + s[at+1:])
			check(s[:at])
			check(s[at:])
			for c := range 256 {
				if c == '\n' {
					continue
				}
				check(s[:at] + string([]byte{byte(c)}) + s[at:])
				check(s[:at] + string([]byte{byte(c)}) + s[at+1:])
			}
		}
		check(s)
	}
}

// TestWeights is P6.1 and P6.4 of elements whose weights stand at their limits, first and last of an entry's.
func TestWeights(t *testing.T) {
	edges := []int{0, 1, 2, 0xff, 0x100, 0xfb3e, 0xfb3f, 0xfb40, 0xfb41, 0xfffe, 0xffff}
	right := api.Element{Primary: 1, Secondary: 1, Tertiary: 1}
	for _, variable := range []bool{false, true} {
		for _, p := range edges {
			for _, s := range edges {
				for _, w := range edges {
					x := api.Element{Variable: variable, Primary: p, Secondary: s, Tertiary: w}
					for _, l := range [][]api.Element{{x}, {x, right}, {right, x}} {
						e := api.Entry{Points: []int{0x61}, Elements: l}
						if !mayWeigh(x) {
							wantError(t, lineOf(e), api.ErrTableWeight, 1)
							wantNoPrint(t, []api.Entry{e}, api.ErrArg)
							continue
						}
						wantFound(t, load(t, lineOf(e)), []int{0x61}, l...)
						wantPrint(t, []api.Entry{e}, lineOf(e))
					}
				}
			}
		}
	}
	for _, n := range []int{math.MinInt, -0x10000, -1, 0x10000, 0x10001, 1<<32 + 1, math.MaxInt} {
		for _, x := range []api.Element{{Primary: n, Secondary: 1, Tertiary: 1}, {Primary: 1, Secondary: n, Tertiary: 1}, {Primary: 1, Secondary: 1, Tertiary: n}, {Secondary: n, Tertiary: 1}, {Tertiary: n}} {
			wantNoPrint(t, []api.Entry{{Points: []int{0x61}, Elements: []api.Element{x}}}, api.ErrArg)
		}
	}
}

// TestCounts is P6.1 and P6.4 of rows of 0 to 20 points and of 0 to 40 elements.
func TestCounts(t *testing.T) {
	for points := range 20 {
		for elements := range 40 {
			e := api.Entry{Points: make([]int, points), Elements: make([]api.Element, elements)}
			for i := range e.Points {
				e.Points[i] = 0x61 + i
			}
			for i := range e.Elements {
				e.Elements[i] = api.Element{Tertiary: i}
			}
			if points < 1 || points > 8 || elements < 1 || elements > 16 {
				wantError(t, lineOf(e), api.ErrTableLine, 1)
				wantNoPrint(t, []api.Entry{e}, api.ErrArg)
				continue
			}
			x := load(t, lineOf(e))
			wantFound(t, x, e.Points, e.Elements...)
			if x.Longest(0x61) != points || !sameEntries(x.Entries(), []api.Entry{e}) {
				t.Error(points, elements, x.Longest(0x61))
			}
			wantPrint(t, []api.Entry{e}, lineOf(e))
		}
	}
}

// TestWhichFirst is P6.1 of lines with more than one fault, and of faults on more than one line.
func TestWhichFirst(t *testing.T) {
	bad, twice := "[.FB40.0020.0002]", "0061;"+one+"\n"
	wantError(t, "0061;"+bad+"x", api.ErrTableLine, 1)
	wantError(t, "0061;"+bad+"[.0001.0001]", api.ErrTableLine, 1)
	wantError(t, "0061;"+strings.Repeat(bad, 17), api.ErrTableLine, 1)
	wantError(t, twice+"0061;"+bad+";", api.ErrTableLine, 2)
	wantError(t, twice+"0061;"+bad, api.ErrTableWeight, 2)
	wantError(t, twice+"0061;"+one+bad, api.ErrTableWeight, 2)
	wantError(t, twice+"0061;"+one, api.ErrTableTwice, 2)
	wantError(t, twice+"0061;"+one+one, api.ErrTableTwice, 2)
	wantError(t, "x\n0061;"+bad, api.ErrTableLine, 1)
	wantError(t, "0061;"+bad+"\nx", api.ErrTableWeight, 1)
	wantError(t, twice+"0061;"+one+"\nx", api.ErrTableTwice, 2)
	wantError(t, twice+"\n#\n0062;"+one+"\n"+twice+twice, api.ErrTableTwice, 5)
	wantError(t, "0061 0062;"+one+"\n0061;"+one+"\n0061 0062;"+one, api.ErrTableTwice, 3)
	long := strings.Repeat("x", api.MaxText)
	wantError(t, long, api.ErrTableLine, 1)
	wantError(t, long+"x", api.ErrLong, 0)
	wantError(t, "\n"+long, api.ErrLong, 0)
}

// TestLongTexts is P6.1 of 65536 bytes and of one more.
func TestLongTexts(t *testing.T) {
	l := singles(0x4000, (api.MaxText+1)/23)
	text := linesOf(l)
	text += "\n#" + strings.Repeat("-", api.MaxText-len(text)-2)
	x := load(t, text)
	if !sameEntries(x.Entries(), l) {
		t.Error(len(x.Entries()))
	}
	wantError(t, text+"-", api.ErrLong, 0)
	wantError(t, text+"\n", api.ErrLong, 0)
	load(t, "#"+strings.Repeat("\x00", api.MaxText-1))
	wantError(t, "#"+strings.Repeat("\x00", api.MaxText), api.ErrLong, 0)
	wantError(t, strings.Repeat("\n", api.MaxText-1)+"0", api.ErrTableLine, api.MaxText)
	wantError(t, strings.Repeat("0061 ", api.MaxText/5), api.ErrTableLine, 1)
	wantError(t, strings.Repeat(";", api.MaxText), api.ErrTableLine, 1)
	wantError(t, "0061;"+strings.Repeat(one, api.MaxText/17-1), api.ErrTableLine, 1)
}

// TestManyEntries is P6.1 of 4096 entries and one more: no text has room for so many, so they are laid in by hand.
func TestManyEntries(t *testing.T) {
	x := load(t, "")
	for i := range api.MaxEntries - 1 {
		r, _ := rowOf([]int{i})
		x.add(r, []api.Element{{}})
	}
	for _, c := range []struct {
		line string
		want api.Errno
	}{
		{"4000;" + one, api.OK}, {"4001;" + one, api.ErrLong}, {"4000;" + one, api.ErrTableTwice},
		{"4001;[.FB40.0001.0001]", api.ErrTableWeight}, {"4000;[.FB40.0001.0001]", api.ErrTableWeight}, {"4001;", api.ErrTableLine},
	} {
		if e := x.take(c.line); e != c.want {
			t.Errorf("%s: %d, not %d", c.line, e, c.want)
		}
	}
	if n := len(x.Entries()); n != api.MaxEntries {
		t.Error(n)
	}
}

// TestBeginnings is P6.2 of rows that begin one another, and of those that stand between them.
func TestBeginnings(t *testing.T) {
	l := []api.Entry{
		{Points: []int{0, 0, 0, 0, 0, 0, 0, 0}, Elements: []api.Element{{Tertiary: 1}}},
		{Points: []int{0x61}, Elements: []api.Element{{Tertiary: 2}}},
		{Points: []int{0x61, 0, 0}, Elements: []api.Element{{Tertiary: 3}, {}}},
		{Points: []int{0x61, 0x62, 0x63, 0x64, 0x65}, Elements: []api.Element{{Tertiary: 4}}},
		{Points: []int{0x62, 0x61}, Elements: []api.Element{{Tertiary: 5}}},
		{Points: []int{0x63, 0x61}, Elements: []api.Element{{Tertiary: 6}}},
		{Points: []int{0x63, 0x61, 0x10ffff}, Elements: []api.Element{{Tertiary: 7}}},
		{Points: []int{0x63, 0x62}, Elements: []api.Element{{Tertiary: 8}}},
		{Points: []int{0x64, 1, 2, 3, 4, 5, 6, 7}, Elements: []api.Element{{Tertiary: 9}}},
	}
	for seed := range 30 {
		shuffled := slices.Clone(l)
		rand.New(rand.NewSource(int64(seed))).Shuffle(len(shuffled), func(i, j int) { shuffled[i], shuffled[j] = shuffled[j], shuffled[i] })
		x := load(t, linesOf(shuffled))
		for _, e := range l {
			wantFound(t, x, e.Points, e.Elements...)
		}
		if !sameEntries(x.Entries(), l) {
			t.Error(x.Entries())
		}
		for point, n := range map[int]int{0: 8, 0x61: 5, 0x62: 2, 0x63: 3, 0x64: 8, 1: 0, 2: 0, 0x65: 0, 0x10ffff: 0} {
			if got := x.Longest(point); got != n {
				t.Errorf("Longest(%x) = %d, not %d", point, got, n)
			}
		}
	}
	x := load(t, linesOf(l))
	for _, p := range [][]int{
		nil, {}, {0}, {0, 0, 0, 0, 0, 0, 0}, make([]int, 9), make([]int, 16), {0x61, 0}, {0x61, 0, 0, 0}, {0x61, 0x62}, {0x61, 0x62, 0x63, 0x64}, {0x61, 0x62, 0x63, 0x64, 0x65, 0},
		{0x62}, {0x61, 0x61}, {0x63}, {0x63, 0x61, 0x10fffe}, {0x64, 1, 2, 3, 4, 5, 6}, {0x64, 1, 2, 3, 4, 5, 6, 7, 8}, {0x64, 1, 2, 3, 4, 5, 6, 8}, make([]int, 100000),
	} {
		wantNone(t, x, p...)
	}
}

// TestNoPoints is P6.2 of numbers that are no points: they find nothing, alone, behind a row and ahead of it.
func TestNoPoints(t *testing.T) {
	x := load(t, "0061;"+one+"\n0000;"+one+"\n0061 0000;"+one+"\n10FFFF;"+one+"\n0063 0064 0065 0066 0067 0068 0069;"+one)
	for _, n := range wrongNumbers() {
		if got := x.Longest(n); got != 0 {
			t.Errorf("Longest(%x) = %d", n, got)
		}
		for _, p := range [][]int{{n}, {n, 0x61}, {0x61, n}, {0x61, n, n, n, n, n, n, n}, {0x61, 0, n}, {0x61, n, 0}, {n, n, n, n, n, n, n, n}, {0x63, 0x64, 0x65, 0x66, 0x67, 0x68, 0x69, n}} {
			wantNone(t, x, p...)
		}
		for _, e := range []api.Entry{{Points: []int{n}}, {Points: []int{0x61, n}}, {Points: []int{n, 0x61}}, {Points: []int{0x61, 0x62, 0x63, 0x64, 0x65, 0x66, 0x67, n}}} {
			e.Elements = []api.Element{{}}
			wantNoPrint(t, []api.Entry{e}, api.ErrArg)
		}
	}
}

// TestImpliedExamples is P6.3, by the chapter's own examples.
func TestImpliedExamples(t *testing.T) {
	for _, c := range [][3]int{{0x4e00, 0xfb40, 0xce00}, {0x20000, 0xfb84, 0x8000}, {0x41, 0xfbc0, 0x8041}, {0x10ffff, 0xfbe1, 0xffff}} {
		want := []api.Element{{Primary: c[1], Secondary: 0x20, Tertiary: 2}, {Primary: c[2]}}
		if l := Implied(c[0]); !slices.Equal(l, want) {
			t.Errorf("Implied(%x) = %v", c[0], l)
		}
	}
	for _, n := range append(wrongNumbers(), 0xd801, 0xdffe) {
		if l := Implied(n); len(l) != 0 {
			t.Errorf("Implied(%x) = %v", n, l)
		}
	}
}

// TestImpliedOfAll is P6.3 and P6.5 of every number: the ranges as the chapter lists them, no two points alike, each first one above all that may stand in a table.
func TestImpliedOfAll(t *testing.T) {
	ranges := []struct{ from, to, base int }{{0x4e00, 0x9fff, 0xfb40}, {0xf900, 0xfaff, 0xfb40}, {0x3400, 0x4dbf, 0xfb80}, {0x20000, 0x3ffff, 0xfb80}}
	seen := map[[2]int]int{}
	for n := -10; n < 0x110010; n++ {
		l := Implied(n)
		if !isOne(n) {
			if len(l) != 0 {
				t.Fatalf("Implied(%x) = %v", n, l)
			}
			continue
		}
		base := 0xfbc0
		for _, r := range ranges {
			if n >= r.from && n <= r.to {
				base = r.base
			}
		}
		want := []api.Element{{Primary: base + n/0x8000, Secondary: 0x20, Tertiary: 2}, {Primary: 0x8000 + n%0x8000}}
		if !slices.Equal(l, want) {
			t.Fatalf("Implied(%x) = %v, not %v", n, l, want)
		}
		key := [2]int{l[0].Primary, l[1].Primary}
		if other, is := seen[key]; is {
			t.Fatalf("%x and %x: %x", other, n, key)
		}
		seen[key] = n
		if mayWeigh(api.Element{Primary: l[0].Primary, Secondary: 1, Tertiary: 1}) || l[0].Primary > 0xffff {
			t.Fatalf("Implied(%x) = %v", n, l)
		}
	}
}

// TestThereAndBack is P6.1, P6.2, P6.4 and P6.5 of many tables: entries in any order, told in theirs, printed and read again.
func TestThereAndBack(t *testing.T) {
	r := rand.New(rand.NewSource(6))
	for range 300 {
		l := someEntries(r, r.Intn(60))
		x := load(t, "#\n"+strings.ReplaceAll(linesOf(l), "\n", "\n\n# \n")+"\n")
		longest := map[int]int{}
		for _, e := range l {
			wantFound(t, x, e.Points, e.Elements...)
			longest[e.Points[0]] = max(longest[e.Points[0]], len(e.Points))
			wantNone(t, x, append(slices.Clone(e.Points), 0x62)...)
		}
		for n := range 0x110000 / 0x61 {
			if x.Longest(n*0x61) != longest[n*0x61] {
				t.Fatalf("Longest(%x)", n*0x61)
			}
		}
		slices.SortFunc(l, inOrder)
		if !sameEntries(x.Entries(), l) {
			t.Fatal(x.Entries(), l)
		}
		wantPrint(t, x.Entries(), linesOf(l))
		if again := load(t, linesOf(l)); !sameEntries(again.Entries(), l) {
			t.Fatal(again.Entries(), l)
		}
	}
}

// inOrder is the order of entries, as the chapter's words stand.
func inOrder(a, b api.Entry) int {
	for i := range min(len(a.Points), len(b.Points)) {
		if a.Points[i] != b.Points[i] {
			return a.Points[i] - b.Points[i]
		}
	}
	return len(a.Points) - len(b.Points)
}

// TestPrintOrder is P6.4 of all pairs and some triples of short rows: just those that rise are printed.
func TestPrintOrder(t *testing.T) {
	var rows [][]int
	for _, a := range []int{0, 1, 0x10000} {
		rows = append(rows, []int{a})
		for _, b := range []int{0, 1, 0xffff} {
			rows = append(rows, []int{a, b}, []int{a, b, 0}, []int{a, b, 1})
		}
	}
	entry := func(p []int) api.Entry { return api.Entry{Points: p, Elements: []api.Element{{Tertiary: 9}}} }
	low, high := entry([]int{0, 0, 0}), entry([]int{0x10ffff})
	for _, a := range rows {
		for _, b := range rows {
			x, y := entry(a), entry(b)
			if inOrder(x, y) < 0 {
				wantPrint(t, []api.Entry{x, y}, lineOf(x)+"\n"+lineOf(y))
				wantPrint(t, []api.Entry{x, y, high}, linesOf([]api.Entry{x, y, high}))
				continue
			}
			wantNoPrint(t, []api.Entry{x, y}, api.ErrArg)
			wantNoPrint(t, []api.Entry{x, y, high}, api.ErrArg)
			wantNoPrint(t, []api.Entry{low, high, x, y}, api.ErrArg)
		}
	}
	wantPrint(t, nil, "")
	wantPrint(t, []api.Entry{}, "")
}

// TestPrintLong is P6.4 of 4096 entries and one more, of 65536 bytes and one more, and of what is wrong beside that.
func TestPrintLong(t *testing.T) {
	many := singles(0, api.MaxEntries+1)
	wantNoPrint(t, many, api.ErrLong)
	wantNoPrint(t, many[:api.MaxEntries], api.ErrLong)
	wantNoPrint(t, make([]api.Entry, api.MaxEntries+1), api.ErrLong)
	wantNoPrint(t, make([]api.Entry, api.MaxEntries), api.ErrArg)
	wrong := slices.Clone(many[:api.MaxEntries])
	wrong[api.MaxEntries-1].Points = []int{0}
	wantNoPrint(t, wrong, api.ErrArg)
	wrong[api.MaxEntries-1] = api.Entry{Points: []int{0x10ffff}, Elements: []api.Element{{Variable: true}}}
	wantNoPrint(t, wrong, api.ErrArg)
	wantNoPrint(t, []api.Entry{{Points: make([]int, 1<<20), Elements: make([]api.Element, 1<<20)}}, api.ErrArg)

	l := singles(0x1000, 2846) // with their line ends so near to a full text that one line more may be too long or not
	fullest, least := 0, api.MaxText
	for n := range 1 << 8 {
		e := api.Entry{Points: slices.Repeat([]int{0x4000}, 1+n%8), Elements: make([]api.Element, 1+n/32)}
		for i := range min(n/8%4, n%8) {
			e.Points[1+i] = 0x10000
		}
		all := append(slices.Clone(l), e)
		size := len(linesOf(all))
		if size > api.MaxText {
			wantNoPrint(t, all, api.ErrLong)
			least = min(least, size-api.MaxText)
			continue
		}
		wantPrint(t, all, linesOf(all))
		fullest = max(fullest, size)
	}
	if fullest != api.MaxText || least != 1 {
		t.Errorf("the fullest text has %d bytes, the least that is too long %d more than it may", fullest, least)
	}
}

// TestNilTable is R2 of a nil table.
func TestNilTable(t *testing.T) {
	var x *Table
	wantNone(t, x, 0x61)
	wantNone(t, x)
	if x.Longest(0x61) != 0 || len(x.Entries()) != 0 {
		t.Error(x.Longest(0x61), x.Entries())
	}
}

// TestMemory is R2: what is handed in is not written into nor kept, what comes out is new each time, lists and those within.
func TestMemory(t *testing.T) {
	x, other := load(t, example), load(t, "0061;"+one)
	before := x.Entries()
	spoil := func(l []api.Element) {
		for i := range l[:cap(l)] {
			l[:cap(l)][i] = api.Element{Primary: 7}
		}
	}
	for _, e := range x.Entries() {
		for i := range e.Points[:cap(e.Points)] {
			e.Points[:cap(e.Points)][i] = 7
		}
		spoil(e.Elements)
	}
	all := x.Entries()
	slices.Reverse(all)
	found, _ := x.Find([]int{0x61})
	spoil(found)
	spoil(Implied(0x61))
	if !sameEntries(x.Entries(), before) || len(before) != 4 {
		t.Error(x.Entries())
	}
	if l := Implied(0x61); l[0].Primary != 0xfbc0 || l[1].Primary != 0x8061 {
		t.Error(l)
	}
	wantFound(t, x, []int{0x61}, api.Element{Primary: 0x1c47, Secondary: 0x20, Tertiary: 2})
	wantFound(t, other, []int{0x61}, api.Element{Primary: 1, Secondary: 1, Tertiary: 1})

	points := []int{0x63, 0x68, 5, 6}[:2]
	wantFound(t, x, points, api.Element{Primary: 0x1c7a, Secondary: 0x20, Tertiary: 2})
	if !slices.Equal(points[:4], []int{0x63, 0x68, 5, 6}) {
		t.Error(points[:4])
	}
	room := append(x.Entries(), api.Entry{Points: []int{1}})
	in := room[: len(room)-1 : len(room)]
	wantPrint(t, in, linesOf(before))
	if !sameEntries(in, before) || !slices.Equal(room[len(room)-1].Points, []int{1}) {
		t.Error(room)
	}
}
