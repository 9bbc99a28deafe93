package utf

import (
	"cmp"
	"encoding/hex"
	"math"
	"slices"
	"strings"
	"testing"
	"unicode/utf8"

	"dovetail/api"
)

func raw(digits string) string {
	b, err := hex.DecodeString(digits)
	if err != nil {
		panic(err)
	}
	return string(b)
}

// edge is a character at an edge of a row of the chapter's table.
type edge struct {
	digits string
	point  int
}

// edges are the first and the last character of each row, rising.
func edges() []edge {
	return []edge{
		{"00", 0x0}, {"7f", 0x7f},
		{"c280", 0x80}, {"dfbf", 0x7ff},
		{"e0a080", 0x800}, {"e0bfbf", 0xfff},
		{"e18080", 0x1000}, {"ecbfbf", 0xcfff},
		{"ed8080", 0xd000}, {"ed9fbf", 0xd7ff},
		{"ee8080", 0xe000}, {"efbfbf", 0xffff},
		{"f0908080", 0x10000}, {"f0bfbfbf", 0x3ffff},
		{"f1808080", 0x40000}, {"f3bfbfbf", 0xfffff},
		{"f4808080", 0x100000}, {"f48fbfbf", 0x10ffff},
	}
}

// edgeBytes are those at which a row's bytes begin or end, and those next to them.
func edgeBytes() []byte {
	return []byte{
		0x00, 0x41, 0x7f, 0x80, 0x8f, 0x90, 0x9f, 0xa0, 0xbf, 0xc0, 0xc1, 0xc2, 0xdf,
		0xe0, 0xe1, 0xec, 0xed, 0xee, 0xef, 0xf0, 0xf1, 0xf3, 0xf4, 0xf5, 0xf7, 0xf8, 0xfe, 0xff,
	}
}

// libraryCheck is what Check should answer, by the library's reader.
func libraryCheck(s string) int {
	for at := 0; at < len(s); {
		r, size := utf8.DecodeRuneInString(s[at:])
		if r == utf8.RuneError && size < 2 {
			return at
		}
		at += size
	}
	return -1
}

// libraryPoints is what Points should answer of what is UTF-8.
func libraryPoints(s string) []int {
	var l []int
	for _, r := range s {
		l = append(l, int(r))
	}
	return l
}

// wantPoints holds all that is asked of a text against the library.
func wantPoints(t *testing.T, s string) {
	t.Helper()
	want := libraryCheck(s)
	if got := Check(s); got != want {
		t.Fatalf("Check(%x) = %d, not %d", s, got, want)
	}
	l, e, at := Points(s)
	if want >= 0 {
		if len(l) != 0 || e != api.ErrUtfForm || at != want {
			t.Fatalf("Points(%x) = %x, %d, %d, not %d", s, l, e, at, want)
		}
		return
	}
	if !slices.Equal(l, libraryPoints(s)) || e != api.OK || at != 0 {
		t.Fatalf("Points(%x) = %x, %d, %d", s, l, e, at)
	}
	back, e, at := Text(l)
	if back != s || e != api.OK || at != 0 {
		t.Fatalf("Text(Points(%x)) = %x, %d, %d", s, back, e, at)
	}
}

// TestCheckExamples is P3.1, by the chapter's own examples.
func TestCheckExamples(t *testing.T) {
	for _, c := range []struct {
		digits string
		want   int
	}{
		{"", -1}, {"61c3a9", -1}, {"80", 0}, {"c3", 0}, {"61c080", 1}, {"eda080", 0}, {"f4908080", 0}, {"61e2826162", 1},
		{"61e282", 1}, {"61e28261", 1},
	} {
		if got := Check(raw(c.digits)); got != c.want {
			t.Errorf("Check(%s) = %d, not %d", c.digits, got, c.want)
		}
	}
}

// TestCheckEdges is P3.1 at each row's edges: the characters whole, with each of their bytes cut off, and with each tail byte one too low and one too high.
func TestCheckEdges(t *testing.T) {
	for _, c := range edges() {
		s := raw(c.digits)
		for _, ahead := range []string{"", "a", "\u20ac"} {
			if got := Check(ahead + s); got != -1 {
				t.Errorf("Check(%x) = %d", ahead+s, got)
			}
			for n := 1; n < len(s); n++ {
				for _, behind := range []string{"", "a", "\u00e9", "\xff"} {
					if got := Check(ahead + s[:n] + behind); got != len(ahead) {
						t.Errorf("Check(%x) = %d, not %d", ahead+s[:n]+behind, got, len(ahead))
					}
				}
				for _, bad := range []string{"\x7f", "\xc0", "\x00", "\xff"} {
					broken := ahead + s[:n] + bad + s[n+1:]
					if got := Check(broken); got != len(ahead) {
						t.Errorf("Check(%x) = %d, not %d", broken, got, len(ahead))
					}
				}
			}
		}
	}
}

// TestCheckSecond is P3.1 where a first byte lets fewer second ones be than others do.
func TestCheckSecond(t *testing.T) {
	for _, digits := range []string{
		"e09fbf", "e08080", "eda080", "edbfbf", "f08fbfbf", "f0808080", "f4908080", "f4bfbfbf",
		"c17f", "c1bf", "c080", "f5808080", "f7bfbfbf", "f888808080", "fc8480808080", "fe", "ff",
	} {
		if got := Check("a" + raw(digits) + "b"); got != 1 {
			t.Errorf("Check(61%s62) = %d, not 1", digits, got)
		}
	}
}

// TestFirstBytes is P3.1 and P3.2 of each byte alone, and of each with tails behind it.
func TestFirstBytes(t *testing.T) {
	for b := range 256 {
		first := string([]byte{byte(b)})
		for _, tail := range []string{"", "\x80", "\x80\x80", "\x80\x80\x80", "\x90\x80\x80", "\xa0\x80", "\x8f\xbf\xbf", "\xbf\xbf\xbf\xbf"} {
			wantPoints(t, first+tail)
		}
		if wrong := b >= 0x80 && b < 0xc2 || b > 0xf4; wrong && Check(first+"\x80\x80\x80") != 0 {
			t.Errorf("%x begins a character", b)
		}
	}
}

// TestShortTexts holds P3.1 and P3.2 against the library: all texts of up to two bytes, and all rows of up to five edge bytes.
func TestShortTexts(t *testing.T) {
	for a := range 256 {
		for b := range 256 {
			wantPoints(t, string([]byte{byte(a), byte(b)}))
		}
	}
	all := edgeBytes()
	for _, a := range all {
		for _, b := range all {
			for _, c := range all {
				wantPoints(t, string([]byte{a, b, c}))
				for _, d := range all {
					wantPoints(t, string([]byte{a, b, c, d}))
				}
			}
		}
	}
	for _, a := range []byte{0x41, 0xc3, 0xe2, 0xf0, 0x9f} {
		for _, b := range all {
			for _, c := range all {
				wantPoints(t, string([]byte{a, 0x9f, b, 0x80, c}))
				wantPoints(t, string([]byte{0x41, a, 0xbf, b, c}))
			}
		}
	}
}

// TestPointsExamples is P3.2, by the chapter's own examples and the edges.
func TestPointsExamples(t *testing.T) {
	l, e, at := Points(raw("61c3a9e282acf09f9880"))
	if !slices.Equal(l, []int{0x61, 0xe9, 0x20ac, 0x1f600}) || e != api.OK || at != 0 {
		t.Errorf("%x, %d, %d", l, e, at)
	}
	if l, e, at := Points(raw("61ff")); len(l) != 0 || e != api.ErrUtfForm || at != 1 {
		t.Errorf("%x, %d, %d", l, e, at)
	}
	if l, e, at := Points(""); len(l) != 0 || e != api.OK || at != 0 {
		t.Errorf("of none: %x, %d, %d", l, e, at)
	}
	all, points := "", []int(nil)
	for _, c := range edges() {
		if l, e, at := Points(raw(c.digits)); !slices.Equal(l, []int{c.point}) || e != api.OK || at != 0 {
			t.Errorf("Points(%s) = %x, %d, %d", c.digits, l, e, at)
		}
		all, points = all+raw(c.digits), append(points, c.point)
		if l, e, at := Points(all); !slices.Equal(l, points) || e != api.OK || at != 0 {
			t.Errorf("Points(%x) = %x, %d, %d", all, l, e, at)
		}
		if l, e, at := Points(all + "\xed\xbf\xbf"); len(l) != 0 || e != api.ErrUtfForm || at != len(all) {
			t.Errorf("Points(%xedbfbf) = %x, %d, %d", all, l, e, at)
		}
	}
}

// TestTextExamples is P3.3, by the chapter's own examples.
func TestTextExamples(t *testing.T) {
	for _, c := range []struct {
		l      []int
		digits string
		want   api.Errno
		at     int
	}{
		{[]int{0x61, 0x10ffff}, "61f48fbfbf", api.OK, 0},
		{[]int{0x7f, 0x80, 0x7ff, 0x800, 0xffff, 0x10000}, "7fc280dfbfe0a080efbfbff0908080", api.OK, 0},
		{[]int{0x61, 0xd800}, "", api.ErrUtfForm, 1},
		{[]int{-1}, "", api.ErrUtfForm, 0},
		{[]int{0x110000}, "", api.ErrUtfForm, 0},
		{nil, "", api.OK, 0},
		{[]int{}, "", api.OK, 0},
		{[]int{0x61, 0xdfff, -1, 0x61}, "", api.ErrUtfForm, 1},
		{[]int{0xd7ff, 0xe000, 0x61, math.MinInt, 0xd800}, "", api.ErrUtfForm, 3},
	} {
		s, e, at := Text(c.l)
		if s != raw(c.digits) || e != c.want || at != c.at {
			t.Errorf("Text(%x) = %x, %d, %d", c.l, s, e, at)
		}
	}
}

// TestTextNoPoint is P3.3 of numbers that are no points, behind each number of points.
func TestTextNoPoint(t *testing.T) {
	wrong := []int{
		math.MinInt, math.MinInt + 0x61, math.MinInt32, -0x10ffff, -256, -128, -2, -1, 0xd800, 0xd801, 0xdabc, 0xdffe, 0xdfff,
		0x110000, 0x110001, 0x1fffff, 0x200000, 1 << 31, 1 << 32, 1<<32 + 0x61, math.MaxInt - 1, math.MaxInt,
	}
	for _, n := range wrong {
		for ahead := range 4 {
			l := append(slices.Repeat([]int{0x20ac}, ahead), n, 0x61)
			if s, e, at := Text(l); s != "" || e != api.ErrUtfForm || at != ahead {
				t.Errorf("Text(%x) = %x, %d, %d", l, s, e, at)
			}
		}
	}
}

// TestEveryPoint is P3.2, P3.3 and P3.4 of each number from below 0 to behind the last point.
func TestEveryPoint(t *testing.T) {
	var all []int
	last := ""
	for n := -3; n < 0x110003; n++ {
		s, e, at := Text([]int{n})
		if !utf8.ValidRune(rune(n)) {
			if s != "" || e != api.ErrUtfForm || at != 0 {
				t.Fatalf("Text(%x) = %x, %d, %d", n, s, e, at)
			}
			continue
		}
		if s != string(rune(n)) || e != api.OK || at != 0 {
			t.Fatalf("Text(%x) = %x, %d, %d", n, s, e, at)
		}
		if n > 0 && s <= last {
			t.Fatalf("%x stands not behind %x", s, last)
		}
		if l, e, at := Points(s); len(l) != 1 || l[0] != n || e != api.OK || at != 0 || Check(s) != -1 {
			t.Fatalf("Points(%x) = %x, %d, %d", s, l, e, at)
		}
		all, last = append(all, n), s
	}
	s, e, at := Text(all)
	if e != api.OK || at != 0 || Check(s) != -1 {
		t.Fatalf("Text of all points: %d, %d", e, at)
	}
	if l, e, at := Points(s); !slices.Equal(l, all) || e != api.OK || at != 0 {
		t.Errorf("Points of all points: %d, %d", e, at)
	}
}

// lists are rows of up to three points at the rows' edges, and beginnings of one another.
func lists() [][]int {
	some := []int{0x0, 0x61, 0x7f, 0x80, 0x7ff, 0x800, 0xd7ff, 0xe000, 0xffff, 0x10000, 0x3ffff, 0x40000, 0x10ffff}
	all := [][]int{nil}
	for _, a := range some {
		all = append(all, []int{a})
		for _, b := range some {
			all = append(all, []int{a, b})
		}
		all = append(all, []int{0x800, a, 0x10000}, []int{0x800, 0xffff, a})
	}
	return all
}

// TestOrder is P3.4: the order by bytes is that of the points; and there and back.
func TestOrder(t *testing.T) {
	for _, a := range lists() {
		s, e, _ := Text(a)
		if e != api.OK {
			t.Fatalf("Text(%x): %d", a, e)
		}
		if back, e, _ := Points(s); !slices.Equal(back, a) || e != api.OK {
			t.Errorf("Points(Text(%x)) = %x, %d", a, back, e)
		}
		for _, b := range lists() {
			z, _, _ := Text(b)
			if cmp.Compare(s, z) != slices.Compare(a, b) {
				t.Errorf("%x and %x stand not as %x and %x", s, z, a, b)
			}
		}
	}
}

// TestBehind is P3.5: of two texts, one behind the other.
func TestBehind(t *testing.T) {
	for _, a := range lists() {
		s, _, _ := Text(a)
		for _, b := range lists() {
			z, _, _ := Text(b)
			l, e, at := Points(s + z)
			if !slices.Equal(l, slices.Concat(a, b)) || e != api.OK || at != 0 {
				t.Errorf("Points(%x%x) = %x, %d, %d", s, z, l, e, at)
			}
		}
	}
}

// TestFirstPart is P3.5: what stands ahead of the place that Check tells is UTF-8, and stays so with UTF-8 behind it.
func TestFirstPart(t *testing.T) {
	for _, good := range []string{"", "a", "\u00e9\u20ac", "\U0010ffffz"} {
		for _, bad := range []string{"\x80", "\xc3", "\xe2\x82", "\xf0\x9f\x98", "\xed\xa0\x80", "\xff"} {
			for _, more := range []string{"", "a", "\u20ac", "\x80"} {
				s := good + bad + more
				if bad+more == "\xc3\x80" || bad+more == "\xe2\x82\x80" || bad+more == "\xf0\x9f\x98\x80" {
					continue
				}
				k := Check(s)
				if k != len(good) {
					t.Fatalf("Check(%x) = %d, not %d", s, k, len(good))
				}
				for _, behind := range []string{"", "z", "\u00e9", "\U0001f600"} {
					if got := Check(s[:k] + behind); got != -1 {
						t.Errorf("Check(%x) = %d", s[:k]+behind, got)
					}
				}
			}
		}
	}
}

// TestMemory is R2: what is handed in is not written into, and what comes out is new memory.
func TestMemory(t *testing.T) {
	room := []int{0x61, 0x20ac, 0x1f600, -7, -8}
	kept := slices.Clone(room)
	s, _, _ := Text(room[:3])
	if s != "a\u20ac\U0001f600" || !slices.Equal(room, kept) {
		t.Errorf("%x, %x", s, room)
	}
	for i := range room {
		room[i] = 0x7a
	}
	if s != "a\u20ac\U0001f600" {
		t.Errorf("the text changed with the list: %x", s)
	}
	a, _, _ := Points("ab")
	b, _, _ := Points("ab")
	a[0] = 0x7a
	_ = append(a[:1], 0x7a)
	if c, _, _ := Points("ab"); !slices.Equal(b, []int{0x61, 0x62}) || !slices.Equal(c, b) {
		t.Errorf("answers share memory: %x, %x", b, c)
	}
}

// TestLeftEarly is R4 of what the package ranges over: it may be left, and ranged over again.
func TestLeftEarly(t *testing.T) {
	told := characters("a\u00e9b\xff")
	for range 2 {
		var places, points []int
		for at, point := range told {
			places, points = append(places, at), append(points, point)
			if point == 0xe9 {
				break
			}
		}
		if !slices.Equal(places, []int{0, 1}) || !slices.Equal(points, []int{0x61, 0xe9}) {
			t.Errorf("%d, %x", places, points)
		}
	}
}

// TestLong is R1: long texts and lists, whole and broken at their end.
func TestLong(t *testing.T) {
	for _, c := range []string{"a", "\u00e9", "\u20ac", "\U0001f600"} {
		s := strings.Repeat(c, 1<<20)
		if got := Check(s); got != -1 {
			t.Errorf("Check of many %x = %d", c, got)
		}
		if got := Check(s + "\xf4\x90"); got != len(s) {
			t.Errorf("Check of many %x and what is none = %d", c, got)
		}
		l, e, at := Points(s)
		if len(l) != 1<<20 || e != api.OK || at != 0 {
			t.Errorf("Points of many %x: %d, %d, %d", c, len(l), e, at)
		}
		if back, e, at := Text(l); back != s || e != api.OK || at != 0 {
			t.Errorf("Text of many %x: %d, %d", c, e, at)
		}
		if back, e, at := Text(append(l, 0xd800)); back != "" || e != api.ErrUtfForm || at != 1<<20 {
			t.Errorf("Text of many %x and what is none: %d, %d", c, e, at)
		}
	}
}
