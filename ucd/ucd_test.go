package ucd

import (
	"cmp"
	"fmt"
	"math"
	"regexp"
	"slices"
	"strconv"
	"strings"
	"testing"

	"dovetail/api"
)

const example = "0301;230;\n00E1;0;0061 0301\n1EAF;0;0103 0301\n0103;0;0061 0306"

// load is what Load takes.
func load(t *testing.T, text string) *Data {
	t.Helper()
	d, e, line := Load(text)
	if d == nil || e != api.OK || line != 0 {
		t.Fatalf("Load(%.80q) = %v, %d, %d", text, d != nil, e, line)
	}
	return d
}

// wantError is what Load refuses.
func wantError(t *testing.T, text string, want api.Errno, at int) {
	t.Helper()
	if d, e, line := Load(text); d != nil || e != want || line != at {
		t.Errorf("Load(%.80q), %d bytes = %v, %d, %d, not %d, %d", text, len(text), d != nil, e, line, want, at)
	}
}

// wantParts holds Parts against a list.
func wantParts(t *testing.T, d *Data, point int, want ...int) {
	t.Helper()
	if l := d.Parts(point); !slices.Equal(l, want) {
		t.Errorf("Parts(%x) = %x, not %x", point, l, want)
	}
}

// sameMarks tells whether two lists are the same, of no parts nil or not.
func sameMarks(a, b []api.Mark) bool {
	return slices.EqualFunc(a, b, func(x, y api.Mark) bool {
		return x.Point == y.Point && x.Class == y.Class && slices.Equal(x.Parts, y.Parts)
	})
}

// free tells whether a number may stand in a line, by other means than the package's.
func free(n int) bool {
	return n >= 0 && n < 0xac00 || n > 0xd7a3 && n < 0xd800 || n > 0xdfff && n <= 0x10ffff
}

// markLine is a mark's line, by the library's printing.
func markLine(m api.Mark) string {
	var parts []string
	for _, p := range m.Parts {
		parts = append(parts, fmt.Sprintf("%04X", p))
	}
	return fmt.Sprintf("%04X;%d;%s", m.Point, m.Class, strings.Join(parts, " "))
}

// markLines are lines of marks of class 0 without parts, their points from one on.
func markLines(from, n int) []string {
	var l []string
	for i := range n {
		l = append(l, fmt.Sprintf("%04X;0;", from+i))
	}
	return l
}

// wrongNumbers are those that may be neither a mark's point nor a part.
func wrongNumbers() []int {
	return []int{
		math.MinInt, -0x10ffff, -0x61, -1, 0xac00, 0xac01, 0xc000, 0xd7a2, 0xd7a3, 0xd800, 0xdbff, 0xdc00, 0xdfff,
		0x110000, 0x110061, 0xffffff, 1 << 32, 1<<32 + 0x61, math.MaxInt,
	}
}

// TestLoadExamples is P4.1 and P4.2, by the chapter's own examples.
func TestLoadExamples(t *testing.T) {
	d := load(t, example)
	if d.Class(0x301) != 230 || d.Class(0x306) != 0 || d.Class(0xe1) != 0 {
		t.Error(d.Class(0x301), d.Class(0x306), d.Class(0xe1))
	}
	wantParts(t, d, 0x1eaf, 0x61, 0x306, 0x301)
	wantParts(t, d, 0x103, 0x61, 0x306)
	wantParts(t, d, 0x61, 0x61)
	wantParts(t, d, 0x301, 0x301)
	wantParts(t, d, 0xac00, 0x1100, 0x1161)
	wantParts(t, d, 0xac01, 0x1100, 0x1161, 0x11a8)
	wantParts(t, d, 0xd7a3, 0x1112, 0x1175, 0x11c2)
	for _, s := range []string{"301;230;", "0301;230", "0301;0230;", "0301;255;", "00e1;0;", "0301;230; ", "AC00;0;", "D800;0;", "00E1;0;AC00"} {
		wantError(t, s, api.ErrUcdLine, 1)
	}
	wantError(t, "0301;1;\n0301;1;", api.ErrUcdTwice, 2)
	wantError(t, "0041;0;0042\n0042;0;0043 0041", api.ErrUcdLoop, 1)
	wantError(t, "0041;0;0041", api.ErrUcdLoop, 1)
}

// TestSaysNothing is P4.1 of texts and lines that say nothing.
func TestSaysNothing(t *testing.T) {
	for _, s := range []string{"", "#", "\n", "\n\n", "# 0041;0;0042", "#\n\n#", "#;;", "##\xff\x00", "\n#0041;0;", strings.Repeat("\n", api.MaxText)} {
		d := load(t, s)
		if l := d.Marks(); len(l) != 0 {
			t.Errorf("%.20q: %v", s, l)
		}
		wantParts(t, d, 0x41, 0x41)
		if d.Class(0x41) != 0 {
			t.Errorf("%.20q: %d", s, d.Class(0x41))
		}
	}
	with := load(t, "\n#\n0301;230;\n\n# 0301;230;\n0041;0;0061\n#\n\n")
	without := load(t, "0301;230;\n0041;0;0061")
	if !sameMarks(with.Marks(), without.Marks()) || len(with.Marks()) != 2 {
		t.Error(with.Marks())
	}
	for _, s := range []string{" ", " #", "\r", "\t#", "0301;230;#", "0301;230; #", "0301;230;\r", ";", "//"} {
		wantError(t, s, api.ErrUcdLine, 1)
		wantError(t, "\n#\n0041;0;\n"+s+"\n0042;0;", api.ErrUcdLine, 4)
	}
}

// TestEveryPoint is P4.1 of each number, as a point and as a part, with the digits that it has.
func TestEveryPoint(t *testing.T) {
	for n := range 0x110100 {
		if n > 0x10100 && n%7 != 0 && n&0xffff > 2 && n < 0x10fff0 { // far from any edge some are enough
			continue
		}
		for _, s := range []string{fmt.Sprintf("%04X;7;", n), fmt.Sprintf("E000;7;%04X", n)} {
			d, e, line := Load(s)
			if n == 0xe000 && s[5:] == "7;E000" {
				continue
			}
			if !free(n) {
				if d != nil || e != api.ErrUcdLine || line != 1 {
					t.Fatalf("Load(%s): %d, %d", s, e, line)
				}
				continue
			}
			if d == nil || e != api.OK || line != 0 {
				t.Fatalf("Load(%s): %d, %d", s, e, line)
			}
			if m := d.Marks()[0]; markLine(m) != s || d.Class(m.Point) != 7 {
				t.Fatalf("Load(%s): %v", s, m)
			}
		}
	}
}

// TestDigits is P4.1 of digits that a point does not have.
func TestDigits(t *testing.T) {
	for _, s := range []string{
		"", "1", "41", "041", "00041", "000041", "0000041", "0FFFF", "00FFFF", "010000", "010FFFF", "0010FFFF", "110000", "1000000", "FFFFFF",
		"00e1", "00eE", "fFFF", "10fFFF", "00G0", "00g0", "00/1", "00:1", "00@1", "+041", "-041", "0x41", "U+0041", " 0041", "0041 ", "00 41",
		"004\x00", "004\xff", "004\u00e1", "0041\u0301", "\uff10041", "D7A3", "D800", "DFFF", "AC00", strings.Repeat("0", 2000) + "41", strings.Repeat("F", 5000), "10000000000000041",
	} {
		wantError(t, s+";0;", api.ErrUcdLine, 1)
		if s != "" {
			wantError(t, "0041;0;"+s, api.ErrUcdLine, 1)
		}
		wantError(t, "0041;0;0061 "+s, api.ErrUcdLine, 1)
		wantError(t, "0041;0;"+s+" 0061", api.ErrUcdLine, 1)
	}
	for _, s := range []string{"0000", "0041", "00FF", "ABFF", "D7A4", "D7FF", "E000", "FFFF", "10000", "ABCDE", "FFFFF", "100000", "10FFFF"} {
		want, _ := strconv.ParseInt(s, 16, 64)
		d := load(t, s+";3;\n0061;0;0062 "+s)
		if l := d.Parts(0x61); d.Class(int(want)) != 3 || !slices.Equal(l, []int{0x62, int(want)}) {
			t.Errorf("%s: %d, %x", s, d.Class(int(want)), l)
		}
	}
}

// TestClasses is P4.1 of what stands for a class.
func TestClasses(t *testing.T) {
	for n := range 1200 {
		s := fmt.Sprintf("0301;%d;", n)
		if n > 254 {
			wantError(t, s, api.ErrUcdLine, 1)
		} else if d := load(t, s); d.Class(0x301) != n || d.Marks()[0].Class != n {
			t.Errorf("%s: %d", s, d.Class(0x301))
		}
	}
	for _, s := range []string{"", "00", "000", "01", "0230", "0254", "0255", "-0", "-1", "+1", "1 ", " 1", "1.", "A", "1A", "fe", "0x1", "/", ":", "1/", "1:", "2\x00", "\xb2", "\u0661", "4294967296", "18446744073709551617", "2540", strings.Repeat("1", 4000)} {
		wantError(t, "0301;"+s+";", api.ErrUcdLine, 1)
	}
}

// TestBlanks is P4.1 of blanks and marks between a line's fields, too many or too few.
func TestBlanks(t *testing.T) {
	for _, s := range []string{
		"00E1;0;0061  0301", "00E1;0; 0061 0301", "00E1;0;0061 0301 ", "00E1;0;00610301", "00E1;0; ", "00E1;0;  ", "00E1; 0;0061", "00E1;0 ;0061", "00E1 ;0;0061", " 00E1;0;0061",
		"00E1;0;0061\t0301", "00E1;0;0061\u00a00301", "00E1;0;0061,0301", "00E1;0;0061;0301", "00E1;0;0061;", "00E1;0;;", "00E1;;0061", ";0;0061", ";;", "00E1", "00E1;", "00E1;0", "00E1;0061", "00E1,0,0061", "00E1:0:0061",
		"00E1;0;0061\r", "00E1;0;0061\x00", "00E1;0;<compat> 0061", strings.Repeat(";", 3000),
	} {
		wantError(t, s, api.ErrUcdLine, 1)
		wantError(t, example+"\n\n"+s, api.ErrUcdLine, 6)
	}
}

// lineForm is a mark's line, but for points and parts that may not be.
var lineForm = regexp.MustCompile(`\A(?:P);(?:0|[1-9][0-9]?|1[0-9][0-9]|2[0-4][0-9]|25[0-4]);(?:(?:P)(?: (?:P))*)?\z`)

var word = regexp.MustCompile(`[^; ]+`)

var pointForm = regexp.MustCompile(`\A(?:[0-9A-F]{4}|[1-9A-F][0-9A-F]{4}|10[0-9A-F]{4})\z`)

// isMark is whether a line is a mark's, by the library's expressions.
func isMark(s string) bool {
	bare := word.ReplaceAllStringFunc(s, func(w string) string {
		n, err := strconv.ParseInt(w, 16, 32)
		if pointForm.MatchString(w) && err == nil && free(int(n)) {
			return "P"
		}
		return w
	})
	return lineForm.MatchString(bare)
}

// changed are lines with one byte changed, put in, taken away, or told twice.
func changed(s string) []string {
	var l []string
	for i := range len(s) + 1 {
		for _, c := range "0159AFGaf; #\t\r-+/:@\x00\u00e9" {
			l = append(l, s[:i]+string(c)+s[i:])
			if i < len(s) {
				l = append(l, s[:i]+string(c)+s[i+1:])
			}
		}
		if i < len(s) {
			l = append(l, s[:i]+s[i+1:], s[:i]+"\xff"+s[i+1:])
		}
		l = append(l, s[:i], s[i:])
	}
	return l
}

// TestChangedLines holds P4.1 of single lines against the library's expressions: lines with up to two changes.
func TestChangedLines(t *testing.T) {
	taken, refused := 0, 0
	hold := func(s string) {
		d, e, line := Load(s)
		switch {
		case s == "" || s[0] == '#':
			if e != api.OK || len(d.Marks()) != 0 {
				t.Fatalf("%q: %d", s, e)
			}
		case !isMark(s):
			refused++
			if d != nil || e != api.ErrUcdLine || line != 1 {
				t.Fatalf("Load(%q) = %d, %d", s, e, line)
			}
		case e == api.ErrUcdLoop:
			if words := strings.FieldsFunc(s, func(r rune) bool { return r == ';' || r == ' ' }); !slices.Contains(words[2:], words[0]) {
				t.Fatalf("%q leads not to itself", s)
			}
		default:
			taken++
			if e != api.OK || line != 0 || len(d.Marks()) != 1 || markLine(d.Marks()[0]) != s {
				t.Fatalf("Load(%q) = %d, %d", s, e, line)
			}
		}
	}
	for _, s := range []string{"0301;230;", "00E1;0;0061 0301", "10FFFF;25;10000", "ABFF;254;D7FF", "1E5F;1;"} {
		hold(s)
		for _, z := range changed(s) {
			hold(z)
		}
	}
	for _, z := range changed("0301;25;") {
		for _, y := range changed(z) {
			hold(y)
		}
	}
	if taken < 500 || refused < 5000 {
		t.Error(taken, refused)
	}
}

// TestTextLong is P4.1 of a text of as many bytes as may be, and of one more.
func TestTextLong(t *testing.T) {
	fill := func(s string, n int) string { return s + "\n#" + strings.Repeat("x", n-len(s)-2) }
	for _, s := range []string{"", "0301;230;", example} {
		load(t, fill(s, api.MaxText))
		wantError(t, fill(s, api.MaxText+1), api.ErrLong, 0)
	}
	wantError(t, strings.Repeat("\n", api.MaxText+1), api.ErrLong, 0)
	wantError(t, strings.Repeat("x", api.MaxText), api.ErrUcdLine, 1)
	wantError(t, strings.Repeat("x", api.MaxText+1), api.ErrLong, 0)
	wantError(t, fill("0041;0;0041", api.MaxText), api.ErrUcdLoop, 1)
	wantError(t, fill("0041;0;0041", api.MaxText+1), api.ErrLong, 0)
	wantError(t, strings.Repeat("\n", api.MaxText-1)+"x", api.ErrUcdLine, api.MaxText)
}

// TestMarksMany is P4.1 of as many marks as may be, and of one more.
func TestMarksMany(t *testing.T) {
	most := markLines(0x1000, api.MaxEntries)
	d := load(t, strings.Join(most, "\n"))
	if l := d.Marks(); len(l) != api.MaxEntries || l[0].Point != 0x1000 || l[api.MaxEntries-1].Point != 0x1fff {
		t.Error(len(l))
	}
	full := strings.Join(most, "\n")
	load(t, full+"\n\n#\n")
	wantError(t, full+"\n0041;0;", api.ErrLong, api.MaxEntries+1)
	wantError(t, full+"\n\n#\n0041;0;\n0042;0;", api.ErrLong, api.MaxEntries+3)
	wantError(t, full+"\n1000;0;", api.ErrUcdTwice, api.MaxEntries+1)
	wantError(t, full+"\n1FFF;0;", api.ErrUcdTwice, api.MaxEntries+1)
	wantError(t, full+"\nAC00;0;", api.ErrUcdLine, api.MaxEntries+1)
	wantError(t, full+"\n0041;0;\n1000;0;", api.ErrLong, api.MaxEntries+1)
	wantError(t, full+"\n0041;0;\nx", api.ErrLong, api.MaxEntries+1)
	wantError(t, full+"\n0041;0;0041", api.ErrLong, api.MaxEntries+1)
	wantError(t, "#\n"+strings.Join(most[:api.MaxEntries-1], "\n")+"\n0041;0;\n0042;0;", api.ErrLong, api.MaxEntries+2)
}

// TestTwice is P4.1 of points that stand there already: the second line is told, whatever stands on it.
func TestTwice(t *testing.T) {
	wantError(t, "0301;230;\n0041;0;\n#\n0301;0;0041", api.ErrUcdTwice, 4)
	wantError(t, "0041;0;0061\n0041;0;0061", api.ErrUcdTwice, 2)
	wantError(t, "0041;0;\n0042;0;\n0042;0;\n0041;0;", api.ErrUcdTwice, 3)
	wantError(t, "10000;0;\n\n10000;0;", api.ErrUcdTwice, 3)
	load(t, "0041;0;0061 0061\n1000;0;0061\n10000;0;0061\n100000;0;0061")
}

// TestFirstError is P4.1 where several errors are: by lines first, then loops, then what is too long.
func TestFirstError(t *testing.T) {
	long := "0050;0;" + strings.TrimSpace(strings.Repeat("0061 ", 19))
	wantError(t, "0041;0;\n0041;0;\nx", api.ErrUcdTwice, 2)
	wantError(t, "0041;0;\nx\n0041;0;", api.ErrUcdLine, 2)
	wantError(t, "0041;0;\n0041;0;AC00", api.ErrUcdLine, 2)
	wantError(t, "0041;0;0041\n0042;0;\n0042;0;", api.ErrUcdTwice, 3)
	wantError(t, "0041;0;0041\nx", api.ErrUcdLine, 2)
	wantError(t, long+"\n0041;0;0041", api.ErrUcdLoop, 2)
	wantError(t, long+"\n0041;0;\n0041;0;", api.ErrUcdTwice, 3)
	wantError(t, long+"\n00e1;0;", api.ErrUcdLine, 2)
	wantError(t, "\n"+long, api.ErrUcdLong, 2)
}

// TestLoops is P4.1 of points that lead to themselves, and of those that lead to such points alone.
func TestLoops(t *testing.T) {
	for _, c := range []struct {
		text string
		line int
	}{
		{"0050;0;0041\n\n0041;0;0041", 3},
		{"0050;0;0051\n0051;0;0041\n0041;0;0042\n0042;0;0043\n0043;0;0061 0042", 4},
		{"0043;0;0041\n0041;0;0042\n0042;0;0043", 1},
		{"0061;0;0062\n0043;0;0061 0041\n0041;0;0042\n0042;0;0043", 2},
		{"0041;0;0061 0062 0041", 1},
		{"0041;0;0042 0043\n0042;0;0044\n0043;0;0044\n0044;0;0045\n0045;0;0045", 5},
		{"0041;0;0042\n0042;0;0042\n0043;0;0044\n0044;0;0043", 2},
		{"0041;0;0042 0043\n0042;0;0043\n0043;0;0044\n0044;0;0042", 2},
		{"0050;0;0043\n0044;0;0044\n0043;0;0044", 2},
		{"1100;0;1161\n1161;0;1100", 1},
		{"#\n0041;230;10FFFF\n\n10FFFF;0;0041", 2},
	} {
		wantError(t, c.text, api.ErrUcdLoop, c.line)
	}
	load(t, "0041;0;0042 0043\n0042;0;0044\n0043;0;0044\n0044;0;0045")
	load(t, "0041;0;0061 0061\n0042;0;0041 0061 0041")
}

// ways tells by whom each of n points is reached, from its parts' bits, by trying all ways.
func ways(parts []int) []int {
	reach := slices.Clone(parts)
	for range parts {
		for i := range reach {
			for k := range reach {
				if reach[i]>>k&1 == 1 {
					reach[i] |= reach[k]
				}
			}
		}
	}
	return reach
}

// TestEveryWay is P4.1 and P4.2 of four points and all parts that these may have of one another: the first line that leads to itself, or all parts to the end.
func TestEveryWay(t *testing.T) {
	const n = 4
	for bits := range 1 << (n * n) {
		parts, lines := make([]int, n), make([]string, n)
		for i := range n {
			parts[i] = bits >> (i * n) & (1<<n - 1)
			m := api.Mark{Point: 0x41 + i}
			for k := range n {
				if parts[i]>>k&1 == 1 {
					m.Parts = append(m.Parts, 0x41+k)
				}
			}
			lines[i] = markLine(m)
		}
		reach, first := ways(parts), 0
		for i := n - 1; i >= 0; i-- {
			if reach[i]>>i&1 == 1 {
				first = i + 1
			}
		}
		d, e, line := Load(strings.Join(lines, "\n"))
		if first > 0 {
			if d != nil || e != api.ErrUcdLoop || line != first {
				t.Fatalf("%q: %d, %d, not %d", lines, e, line, first)
			}
			continue
		}
		if d == nil || e != api.OK || line != 0 {
			t.Fatalf("%q: %d, %d", lines, e, line)
		}
		for i := range n {
			wantParts(t, d, 0x41+i, ends(d.Marks(), 0x41+i)...)
		}
	}
}

// ends are a point's parts to the end, by the marks alone, one part after the other.
func ends(marks []api.Mark, point int) []int {
	for _, m := range marks {
		if m.Point == point && len(m.Parts) > 0 {
			var l []int
			for _, p := range m.Parts {
				l = append(l, ends(marks, p)...)
			}
			return l
		}
	}
	return []int{point}
}

// repeated is the line of a point of n parts, all of them the same.
func repeated(point, part, n int) string {
	return markLine(api.Mark{Point: point, Parts: slices.Repeat([]int{part}, n)})
}

// TestLongParts is P4.1 of parts to the end of 18 points and of 19: on one line, and by several.
func TestLongParts(t *testing.T) {
	d := load(t, repeated(0x41, 0x61, 18))
	wantParts(t, d, 0x41, slices.Repeat([]int{0x61}, 18)...)
	wantError(t, repeated(0x41, 0x61, 19), api.ErrUcdLong, 1)
	wantError(t, repeated(0x41, 0x61, 13000), api.ErrUcdLong, 1)
	wantError(t, "#\n"+repeated(0x40, 0x61, 18)+"\n"+repeated(0x41, 0x61, 19)+"\n"+repeated(0x42, 0x61, 20), api.ErrUcdLong, 3)

	d = load(t, repeated(0x41, 0x42, 9)+"\n"+repeated(0x42, 0x61, 2))
	wantParts(t, d, 0x41, slices.Repeat([]int{0x61}, 18)...)
	wantError(t, repeated(0x41, 0x42, 9)+" 0061\n"+repeated(0x42, 0x61, 2), api.ErrUcdLong, 1)
	wantError(t, repeated(0x42, 0x61, 2)+"\n"+repeated(0x41, 0x42, 9)+" 0061", api.ErrUcdLong, 2)
	wantError(t, repeated(0x41, 0x42, 5)+"\n"+repeated(0x42, 0x61, 4), api.ErrUcdLong, 1)
	wantError(t, repeated(0x43, 0x41, 1)+"\n"+repeated(0x42, 0x61, 19)+"\n"+repeated(0x41, 0x42, 1), api.ErrUcdLong, 1)

	d = load(t, repeated(0x41, 0x61, 17)+" 0042\n0042;0;0043\n0043;0;0062")
	wantParts(t, d, 0x41, append(slices.Repeat([]int{0x61}, 17), 0x62)...)
	wantError(t, repeated(0x41, 0x61, 17)+" 0042\n0042;0;0043\n0043;0;0062 0062", api.ErrUcdLong, 1)
	wantError(t, repeated(0x44, 0x41, 2)+"\n"+repeated(0x41, 0x61, 18), api.ErrUcdLong, 1)
}

// TestLengths is P4.1 and P4.2 of parts of parts, of all numbers of them near the edge.
func TestLengths(t *testing.T) {
	for a := range 21 {
		for b := range 8 {
			text := repeated(0x41, 0x61, a) + "\n" + repeated(0x42, 0x41, b) + "\n0043;0;0042 0041"
			one := max(a, 1)
			two := max(b*one, 1)
			want := 0
			for i, n := range []int{one, two, one + two} {
				if n > 18 && want == 0 {
					want = i + 1
				}
			}
			if want > 0 {
				wantError(t, text, api.ErrUcdLong, want)
				continue
			}
			d := load(t, text)
			if l := d.Parts(0x43); len(l) != one+two || !slices.Equal(l, ends(d.Marks(), 0x43)) {
				t.Errorf("%q: %x", text, l)
			}
		}
	}
}

// chain are the lines of n points, each of which leads to the next one, that many times.
func chain(n, times, last int) []string {
	var l []string
	for i := range n - 1 {
		l = append(l, repeated(0x1000+i, 0x1001+i, times))
	}
	return append(l, repeated(0x1000+n-1, last, times))
}

// TestDeep is R1 and P4.1: points that lead to one another over as many marks as may be.
func TestDeep(t *testing.T) {
	straight := chain(api.MaxEntries, 1, 0x61)
	for range 2 {
		d := load(t, strings.Join(straight, "\n"))
		for _, p := range []int{0x1000, 0x1001, 0x1800, 0x1fff} {
			wantParts(t, d, p, 0x61)
		}
		slices.Reverse(straight)
	}
	round := chain(api.MaxEntries, 1, 0x1000)
	wantError(t, strings.Join(round, "\n"), api.ErrUcdLoop, 1)
	slices.Reverse(round)
	wantError(t, strings.Join(round, "\n"), api.ErrUcdLoop, 1)
	wantError(t, strings.Join(chain(api.MaxEntries, 1, 0x1fff), "\n"), api.ErrUcdLoop, api.MaxEntries)
	wantError(t, strings.Join(chain(api.MaxEntries, 1, 0x1ffe), "\n"), api.ErrUcdLoop, api.MaxEntries-1)
	doubled := chain(3800, 2, 0x61) // as many as a text has room for
	wantError(t, strings.Join(doubled, "\n"), api.ErrUcdLong, 1)
	slices.Reverse(doubled)
	wantError(t, strings.Join(doubled, "\n"), api.ErrUcdLong, 5)
	load(t, strings.Join(chain(4, 2, 0x61), "\n"))
	wantError(t, strings.Join(chain(5, 2, 0x61), "\n"), api.ErrUcdLong, 1)
}

// TestClass is P4.2 of points with marks and of all other numbers.
func TestClass(t *testing.T) {
	d := load(t, "0301;230;\n0000;254;\n10FFFF;1;\n00E1;9;0061 0301\n0061;0;")
	for p, want := range map[int]int{
		0x301: 230, 0: 254, 0x10ffff: 1, 0xe1: 9, 0x61: 0, 0x302: 0, 0xac00: 0, 0xd800: 0, -1: 0, 0x110000: 0,
		math.MinInt: 0, math.MaxInt: 0, 1<<32 + 0x301: 0, -0x301: 0,
	} {
		if got := d.Class(p); got != want {
			t.Errorf("Class(%x) = %d, not %d", p, got, want)
		}
	}
}

// TestParts is P4.2: parts of parts, in their order, and of what is no point it alone.
func TestParts(t *testing.T) {
	d := load(t, "0041;0;0042 0061 0043\n0042;0;0062 0043\n0043;7;0044\n0044;0;0064 0063\n0063;5;")
	wantParts(t, d, 0x41, 0x62, 0x64, 0x63, 0x61, 0x64, 0x63)
	wantParts(t, d, 0x42, 0x62, 0x64, 0x63)
	wantParts(t, d, 0x43, 0x64, 0x63)
	wantParts(t, d, 0x44, 0x64, 0x63)
	for _, n := range []int{0x63, 0x61, 0, 0xabff, 0xd7a4, 0xd800, 0xdfff, 0x10ffff, 0x110000, -1, -0x41, 1<<32 + 0x41, 1<<32 + 0xac00, math.MinInt, math.MaxInt} {
		wantParts(t, d, n, n)
	}
}

// TestSyllables is P4.2 of each syllable, counted up letter by letter.
func TestSyllables(t *testing.T) {
	d := load(t, example)
	s := 0xac00
	for lead := 0x1100; lead <= 0x1112; lead++ {
		for vowel := 0x1161; vowel <= 0x1175; vowel++ {
			wantParts(t, d, s, lead, vowel)
			s++
			for tail := 0x11a8; tail <= 0x11c2; tail++ {
				wantParts(t, d, s, lead, vowel, tail)
				s++
			}
		}
	}
	if s != 0xd7a4 {
		t.Errorf("%x", s)
	}
	wantParts(t, d, s, s)
}

// TestSyllableLetters is P4.2 of syllables whose letters have parts of their own; theirs may be more than 18.
func TestSyllableLetters(t *testing.T) {
	d := load(t, "1100;0;0061 0062\n0062;0;0063\n1161;3;\n11A8;0;0062 1175\n11A7;0;0064")
	wantParts(t, d, 0xac00, 0x61, 0x63, 0x1161)
	wantParts(t, d, 0xac01, 0x61, 0x63, 0x1161, 0x63, 0x1175)
	wantParts(t, d, 0xac1c, 0x61, 0x63, 0x1162)
	wantParts(t, d, 0xd7a3, 0x1112, 0x1175, 0x11c2)
	d = load(t, repeated(0x1112, 0x61, 18)+"\n"+repeated(0x1175, 0x62, 18)+"\n"+repeated(0x11c2, 0x63, 18))
	wantParts(t, d, 0xd7a3, slices.Concat(slices.Repeat([]int{0x61}, 18), slices.Repeat([]int{0x62}, 18), slices.Repeat([]int{0x63}, 18))...)
	wantParts(t, d, 0xd788, slices.Concat(slices.Repeat([]int{0x61}, 18), slices.Repeat([]int{0x62}, 18))...)
}

// TestMarks is P4.3: by rising points, with the parts that the line says, not those to the end.
func TestMarks(t *testing.T) {
	d := load(t, example+"\n10FFFF;254;\n\n10000;1;0041")
	want := []api.Mark{
		{Point: 0xe1, Parts: []int{0x61, 0x301}}, {Point: 0x103, Parts: []int{0x61, 0x306}}, {Point: 0x301, Class: 230},
		{Point: 0x1eaf, Parts: []int{0x103, 0x301}}, {Point: 0x10000, Class: 1, Parts: []int{0x41}}, {Point: 0x10ffff, Class: 254},
	}
	for range 20 {
		if l := d.Marks(); !sameMarks(l, want) {
			t.Fatal(l)
		}
	}
}

// TestPrintExamples is P4.4, by the chapter's own examples and the edges of points and classes.
func TestPrintExamples(t *testing.T) {
	l := []api.Mark{{Point: 0xe1, Parts: []int{0x61, 0x301}}, {Point: 0x301, Class: 230}}
	if s, e := Print(l); s != "00E1;0;0061 0301\n0301;230;" || e != api.OK {
		t.Errorf("%q, %d", s, e)
	}
	slices.Reverse(l)
	if s, e := Print(l); s != "" || e != api.ErrArg {
		t.Errorf("%q, %d", s, e)
	}
	for _, l := range [][]api.Mark{nil, {}} {
		if s, e := Print(l); s != "" || e != api.OK {
			t.Errorf("%q, %d", s, e)
		}
	}
	if s, e := Print([]api.Mark{{}}); s != "0000;0;" || e != api.OK {
		t.Errorf("%q, %d", s, e)
	}
	l = []api.Mark{{Point: 0, Class: 254, Parts: []int{0xf, 0xff, 0xfff}}, {Point: 0xabff, Class: 9}, {Point: 0xd7a4, Class: 10, Parts: []int{0xd7ff}}, {Point: 0xe000, Class: 99, Parts: []int{}}, {Point: 0xffff, Class: 100}, {Point: 0x10000, Parts: []int{0xfffff, 0x100000}}, {Point: 0x10ffff, Parts: []int{0x10ffff}}}
	want := "0000;254;000F 00FF 0FFF\nABFF;9;\nD7A4;10;D7FF\nE000;99;\nFFFF;100;\n10000;0;FFFFF 100000\n10FFFF;0;10FFFF"
	if s, e := Print(l); s != want || e != api.OK {
		t.Errorf("%q, %d", s, e)
	}
}

// TestPrintWrong is P4.4 of marks that may not be, behind ones that may and ahead of others.
func TestPrintWrong(t *testing.T) {
	var bad [][]api.Mark
	for _, n := range wrongNumbers() {
		bad = append(bad, []api.Mark{{Point: n}}, []api.Mark{{Point: 0xe1, Parts: []int{n}}}, []api.Mark{{Point: 0x61, Parts: []int{0x62, n, 0x63}}, {Point: 0x62}})
	}
	for _, c := range []int{-1, 255, 256, 1 << 32, math.MinInt, math.MaxInt} {
		bad = append(bad, []api.Mark{{Point: 0xe1, Class: c}}, []api.Mark{{Point: 0x10}, {Point: 0x11, Class: c}, {Point: 0x12}})
	}
	bad = append(bad, []api.Mark{{Point: 0x61}, {Point: 0x61}}, []api.Mark{{Point: 0x61}, {Point: 0x60}}, []api.Mark{{Point: 0}, {Point: 0}}, []api.Mark{{Point: 0x10}, {Point: 0x12}, {Point: 0x11}}, []api.Mark{{Point: 0x61}, {Point: 0x61, Class: 1, Parts: []int{0x62}}})
	for _, l := range bad {
		if s, e := Print(l); s != "" || e != api.ErrArg {
			t.Errorf("Print(%x) = %q, %d", l, s, e)
		}
		if l[0].Point > 0 && l[0].Point < 0x10ffff {
			l = slices.Concat([]api.Mark{{}}, l, []api.Mark{{Point: 0x10ffff}})
			if s, e := Print(l); s != "" || e != api.ErrArg {
				t.Errorf("Print(%x) = %q, %d", l, s, e)
			}
		}
	}
}

// rising are n marks of class 0 without parts.
func rising(n int) []api.Mark {
	l := make([]api.Mark, n)
	for i := range l {
		l[i].Point = 0x1000 + i
	}
	return l
}

// TestPrintMany is P4.4 of as many marks as may be, and of one more; and which error is told first.
func TestPrintMany(t *testing.T) {
	s, e := Print(rising(api.MaxEntries))
	if e != api.OK || s != strings.Join(markLines(0x1000, api.MaxEntries), "\n") {
		t.Error(e, len(s))
	}
	many := rising(api.MaxEntries + 1)
	if s, e := Print(many); s != "" || e != api.ErrLong {
		t.Error(e, len(s))
	}
	many[0].Point = -1
	if s, e := Print(many); s != "" || e != api.ErrLong {
		t.Error(e, len(s))
	}
	if s, e := Print(many[:api.MaxEntries]); s != "" || e != api.ErrArg {
		t.Error(e, len(s))
	}
}

// TestPrintLong is P4.4 of texts of as many bytes as may be, and of one more.
func TestPrintLong(t *testing.T) {
	for size := api.MaxText - 3; size <= api.MaxText+3; size++ {
		l := sized(size)
		s, e := Print(l)
		if size > api.MaxText && (s != "" || e != api.ErrLong) || size <= api.MaxText && (len(s) != size || e != api.OK) {
			t.Error(size, e, len(s))
		}
		l[len(l)-1].Parts = append(l[len(l)-1].Parts, -1)
		if s, e := Print(l); s != "" || e != api.ErrArg {
			t.Error(size, e, len(s))
		}
	}
	for _, n := range []int{65536, 65537, 1 << 20} {
		l := []api.Mark{{Point: 0x41, Parts: slices.Repeat([]int{0x61}, n)}, {Point: 0x42}}
		if s, e := Print(l); s != "" || e != api.ErrLong {
			t.Error(n, e, len(s))
		}
		l[1].Class = -1
		if s, e := Print(l); s != "" || e != api.ErrArg {
			t.Error(n, e, len(s))
		}
	}
}

// sized are marks whose lines have that many bytes in all: of 17 bytes each, but the last ones.
func sized(size int) []api.Mark {
	l := []api.Mark{}
	left := size
	for ; left > 100; left -= 17 + 1 {
		l = append(l, api.Mark{Point: 0x1000 + len(l), Class: 0, Parts: []int{0x61, 0x10000}})
	}
	for left > 0 && len(markLine(api.Mark{Parts: []int{0x61}})) < left {
		m := api.Mark{Point: 0x1000 + len(l), Parts: []int{0x61}}
		for len(markLine(m)) < left-4 {
			m.Parts = append(m.Parts, 0x61)
		}
		for i := range left - len(markLine(m)) {
			m.Parts[i] = 0x10000
		}
		l, left = append(l, m), left-len(markLine(m))
	}
	return l
}

// TestSized holds that helper against its word, as the edge hangs on it.
func TestSized(t *testing.T) {
	for _, n := range []int{65535, 65536, 65537} {
		var lines []string
		for _, m := range sized(n) {
			lines = append(lines, markLine(m))
		}
		if got := len(strings.Join(lines, "\n")); got != n {
			t.Errorf("%d, not %d", got, n)
		}
	}
}

// TestPrintLoad is P4.5: what Print tells is read as the same marks, and is told again as the same text.
func TestPrintLoad(t *testing.T) {
	for _, l := range [][]api.Mark{
		nil,
		{{Point: 0xe1, Parts: []int{0x61, 0x301}}, {Point: 0x301, Class: 230}},
		{{Point: 0, Class: 254, Parts: []int{0x61}}, {Point: 0xabff}, {Point: 0xffff, Class: 1}, {Point: 0x10000, Parts: []int{0, 0xabff, 0x10ffff}}, {Point: 0x10ffff, Class: 100}},
		rising(api.MaxEntries),
		sized(api.MaxText),
	} {
		s, e := Print(l)
		if e != api.OK {
			t.Fatal(e)
		}
		d := load(t, s)
		if !sameMarks(d.Marks(), l) {
			t.Errorf("%.80q: %d marks, not %d", s, len(d.Marks()), len(l))
		}
		if again, e := Print(d.Marks()); again != s || e != api.OK {
			t.Errorf("%.80q, %d", again, e)
		}
	}
	s, e := Print([]api.Mark{{Point: 0x41, Parts: []int{0x42}}, {Point: 0x42, Parts: []int{0x41}}})
	if e != api.OK || s != "0041;0;0042\n0042;0;0041" {
		t.Errorf("a loop is printed: %q, %d", s, e)
	}
	wantError(t, s, api.ErrUcdLoop, 1)
}

// TestLoadPrint is P4.5: Print of Marks is what was loaded, without the lines that say nothing, sorted by points.
func TestLoadPrint(t *testing.T) {
	for _, text := range []string{
		"", "#\n\n#", example, "\n#\n" + example + "\n\n# more\n", "10FFFF;1;\nFFFF;2;\n10000;3;\n0000;4;FFFF 10FFFF\nE000;5;\n",
		strings.Join(markLines(0x1000, 4096), "\n\n"),
	} {
		var lines []string
		for line := range strings.SplitSeq(text, "\n") {
			if line != "" && line[0] != '#' {
				lines = append(lines, line)
			}
		}
		slices.SortFunc(lines, func(a, b string) int {
			x, _, _ := strings.Cut(a, ";")
			y, _, _ := strings.Cut(b, ";")
			return cmp.Or(cmp.Compare(len(x), len(y)), cmp.Compare(x, y))
		})
		if s, e := Print(load(t, text).Marks()); s != strings.Join(lines, "\n") || e != api.OK {
			t.Errorf("%.80q: %.80q, %d", text, s, e)
		}
	}
}

// TestToTheEnd is P4.5: no point among the parts to the end has parts of its own, nor is one a syllable.
func TestToTheEnd(t *testing.T) {
	d := load(t, example+"\n1100;0;1EAF 0041\n11A8;0;1100 0301\n0041;0;0103\n1175;0;\nD7A4;0;ABFF")
	for p := range 0x110000 {
		for _, q := range d.Parts(p) {
			if isSyllable(q) || !slices.Equal(d.Parts(q), []int{q}) {
				t.Fatalf("Parts(%x) has %x", p, q)
			}
		}
	}
}

// TestNil is R2 of a nil object.
func TestNil(t *testing.T) {
	var d *Data
	for _, p := range []int{-1, 0, 0x61, 0xac00, 0x10ffff} {
		if d.Class(p) != 0 || len(d.Parts(p)) != 0 || len(d.Marks()) != 0 {
			t.Errorf("%x: %d, %x, %v", p, d.Class(p), d.Parts(p), d.Marks())
		}
	}
}

// spoil writes into a list and its spare room.
func spoil(l []int) {
	for i := range l[:cap(l)] {
		l[:cap(l)][i] = 0x7a7a
	}
}

// TestMemoryOut is R2: what comes out is new memory, each time.
func TestMemoryOut(t *testing.T) {
	const text = example + "\n1100;0;0062 0063\n0065;0;0066\n0067;0;0066"
	d := load(t, text)
	points := []int{0x1eaf, 0xe1, 0x61, 0x301, 0xac00, 0xac01, 0x1100, 0x65, 0x67, -1}
	for range 2 {
		for _, p := range points {
			spoil(d.Parts(p))
		}
		l := d.Marks()
		for i := range l {
			spoil(l[i].Parts)
			l[i] = api.Mark{Point: 0x7a7a, Class: 99}
		}
	}
	fresh := load(t, text)
	for _, p := range points {
		wantParts(t, d, p, fresh.Parts(p)...)
	}
	if !sameMarks(d.Marks(), fresh.Marks()) {
		t.Error(d.Marks())
	}
	one, other := d.Marks(), d.Marks()
	spoil(one[0].Parts)
	if slices.Equal(one[0].Parts, other[0].Parts) || !sameMarks(one[1:], other[1:]) {
		t.Error("two answers, or two lists of one, share memory")
	}
}

// TestMemoryIn is R2: what Print is handed stays as it is, its spare room too.
func TestMemoryIn(t *testing.T) {
	parts := []int{0x61, 0x301, -7, -8}
	room := []api.Mark{{Point: 0xe1, Parts: parts[:2]}, {Point: 0x301, Class: 230}, {Point: -9, Class: -9}}
	s, e := Print(room[:2])
	if s != "00E1;0;0061 0301\n0301;230;" || e != api.OK {
		t.Errorf("%q, %d", s, e)
	}
	if !slices.Equal(parts, []int{0x61, 0x301, -7, -8}) || room[0].Point != 0xe1 || room[1].Class != 230 || len(room[1].Parts) != 0 || room[2].Point != -9 {
		t.Error(parts, room)
	}
	spoil(parts)
	if s != "00E1;0;0061 0301\n0301;230;" {
		t.Errorf("the text changed with the list: %q", s)
	}
}

// TestApart is R2: objects know nothing of one another, and a refused text leaves nothing behind.
func TestApart(t *testing.T) {
	a := load(t, "0041;7;0042")
	b := load(t, "0041;8;0043\n0042;0;0044")
	wantError(t, "0041;9;0045\n0041;0;", api.ErrUcdTwice, 2)
	wantError(t, "0042;9;0041\n0041;0;0042", api.ErrUcdLoop, 1)
	c := load(t, "")
	wantParts(t, a, 0x41, 0x42)
	wantParts(t, b, 0x41, 0x43)
	wantParts(t, c, 0x41, 0x41)
	if a.Class(0x41) != 7 || b.Class(0x41) != 8 || c.Class(0x41) != 0 {
		t.Error(a.Class(0x41), b.Class(0x41), c.Class(0x41))
	}
}
