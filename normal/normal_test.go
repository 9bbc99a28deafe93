package normal

import (
	"fmt"
	"math"
	"slices"
	"strings"
	"testing"

	"dovetail/api"
	"dovetail/ucd"
)

// example is the data that the chapter's examples are of.
const example = "0301;230;\n00E1;0;0061 0301\n1EAF;0;0103 0301\n0103;0;0061 0306\n0323;220;\n0306;230;"

// odd is data whose decompositions begin, end and hold starters and others in all ways; a point's own class says nothing of its parts'.
const odd = "0301;230;\n0306;230;\n0323;220;\n0327;202;\n" +
	"0344;230;0306 0301\n" + // none of its parts is a starter
	"0345;0;0301 0323\n" + // nor here, though its own class says so
	"0346;9;0061 0062\n" + // starters alone, though its own class does not
	"0347;7;0301 0061 0327\n" + // a starter in the middle
	"0348;0;0061 0344 0323" // parts of parts

func load(t *testing.T, text string) *ucd.Data {
	t.Helper()
	d, e, line := ucd.Load(text)
	if e != api.OK {
		t.Fatalf("Load(%.80q): %d, line %d", text, e, line)
	}
	return d
}

// wantForm holds Form, and with it Is and Same, against a list.
func wantForm(t *testing.T, d *ucd.Data, l, want []int) {
	t.Helper()
	got := Form(d, l)
	if !slices.Equal(got, want) {
		t.Fatalf("Form(%x) = %x, not %x", l, got, want)
	}
	if Is(d, l) != slices.Equal(l, want) {
		t.Fatalf("Is(%x) = %v, its Form is %x", l, Is(d, l), want)
	}
	if !Same(d, l, want) || !Same(d, want, l) || !Same(d, l, l) {
		t.Fatalf("%x and its Form %x are not Same", l, want)
	}
}

// swapped is Form by other means: neighbours change places, one pair at a time, until none may.
func swapped(d *ucd.Data, l []int) []int {
	var points []int
	for _, n := range l {
		points = append(points, d.Parts(n)...)
	}
	for again := true; again; {
		again = false
		for i := 1; i < len(points); i++ {
			a, b := d.Class(points[i-1]), d.Class(points[i])
			if b > 0 && a > b {
				points[i-1], points[i] = points[i], points[i-1]
				again = true
			}
		}
	}
	return points
}

// lists are all lists of so many numbers, or fewer, of some.
func lists(of []int, most int) [][]int {
	all := [][]int{nil}
	from := 0
	for range most {
		end := len(all)
		for _, l := range all[from:end] {
			for _, n := range of {
				all = append(all, append(slices.Clone(l), n))
			}
		}
		from = end
	}
	return all
}

// behind is two lists, one behind the other.
func behind(a, b []int) []int { return slices.Concat(a, b) }

// TestExamples is P5.1 and P5.2, by the chapter's own examples.
func TestExamples(t *testing.T) {
	d := load(t, example)
	wantForm(t, d, []int{0x1eaf, 0x323}, []int{0x61, 0x323, 0x306, 0x301})
	wantForm(t, d, []int{0x301, 0x323, 0x61, 0x301}, []int{0x323, 0x301, 0x61, 0x301})
	wantForm(t, d, []int{0x306, 0x301}, []int{0x306, 0x301})
	wantForm(t, d, []int{0x301, 0x306}, []int{0x301, 0x306})
	if !Is(d, []int{0x61, 0x301}) || Is(d, []int{0xe1}) || Is(d, []int{0x301, 0x323}) {
		t.Error("Is")
	}
	if !Same(d, []int{0xe1}, []int{0x61, 0x301}) || !Same(d, []int{0x1eaf, 0x323}, []int{0x103, 0x323, 0x301}) {
		t.Error("not Same")
	}
	if Same(d, []int{0x61, 0x301, 0x306}, []int{0x61, 0x306, 0x301}) {
		t.Error("Same")
	}
}

// TestNoNumbers is P5.1 and P5.2 of lists without numbers, nil or not, by data that say nothing too.
func TestNoNumbers(t *testing.T) {
	for _, d := range []*ucd.Data{load(t, ""), load(t, example)} {
		for _, l := range [][]int{nil, {}, make([]int, 0, 9)} {
			wantForm(t, d, l, nil)
			if !Same(d, l, nil) || !Same(d, l, []int{}) || Same(d, l, []int{0}) || Same(d, []int{0}, l) {
				t.Error("Same of no numbers")
			}
		}
	}
}

// TestNoPoints is P5.1 of numbers that are no points: each is a starter made of itself, and parts the rows beside it.
func TestNoPoints(t *testing.T) {
	d := load(t, odd)
	for _, n := range []int{math.MinInt, -0x301, -1, 0xd800, 0xdbff, 0xdfff, 0x110000, 0x110301, 1 << 32, 1<<32 + 0x301, 1<<32 + 0x345, math.MaxInt} {
		wantForm(t, d, []int{n}, []int{n})
		wantForm(t, d, []int{n, n}, []int{n, n})
		wantForm(t, d, []int{0x301, n, 0x323}, []int{0x301, n, 0x323})
		wantForm(t, d, []int{0x301, 0x323, n, 0x345}, []int{0x323, 0x301, n, 0x323, 0x301})
	}
}

// TestSyllables is P5.1 of syllables: their letters, which the data may part further and give classes.
func TestSyllables(t *testing.T) {
	d := load(t, example)
	wantForm(t, d, []int{0xac00, 0x301, 0x323}, []int{0x1100, 0x1161, 0x323, 0x301})
	wantForm(t, d, []int{0x301, 0xac01, 0x323}, []int{0x301, 0x1100, 0x1161, 0x11a8, 0x323})
	wantForm(t, d, []int{0xd7a3, 0xac00}, []int{0x1112, 0x1175, 0x11c2, 0x1100, 0x1161})
	wantForm(t, d, []int{0xabff, 0xd7a4}, []int{0xabff, 0xd7a4})
	if !Same(d, []int{0xac01}, []int{0x1100, 0x1161, 0x11a8}) || Same(d, []int{0xac01}, []int{0xac00, 0x11a7}) {
		t.Error("Same of syllables")
	}
	letters := load(t, "1100;5;\n1161;3;\n11A8;0;0301 0323\n0301;230;\n0323;220;")
	wantForm(t, letters, []int{0xac00}, []int{0x1161, 0x1100})
	wantForm(t, letters, []int{0xac01}, []int{0x1161, 0x1100, 0x323, 0x301})
	wantForm(t, letters, []int{0x301, 0xac00, 0xae4c}, []int{0x1161, 0x1100, 0x301, 0x1101, 0x1161})
}

// TestStartersAlone is P5.1 of lists of starters: what is made of itself stays as it is, falling or not.
func TestStartersAlone(t *testing.T) {
	d := load(t, odd)
	for _, l := range [][]int{{0}, {0x61}, {0x63, 0x62, 0x61}, {0x61, 0x61}, {0x10ffff, 0, 0xffff}} {
		wantForm(t, d, l, l)
	}
	wantForm(t, d, []int{0x346, 0x63, 0x346}, []int{0x61, 0x62, 0x63, 0x61, 0x62})
}

// TestNoStarter is P5.1 of rows without a starter, by every class there is.
func TestNoStarter(t *testing.T) {
	var lines []string
	var falling, rising []int
	for class := 254; class > 0; class-- {
		lines = append(lines, fmt.Sprintf("%04X;%d;", 0x1000+class*7%254, class))
	}
	d := load(t, strings.Join(lines, "\n"))
	for class := 254; class > 0; class-- {
		falling = append(falling, 0x1000+class*7%254)
	}
	rising = slices.Clone(falling)
	slices.Reverse(rising)
	wantForm(t, d, rising, rising)
	wantForm(t, d, falling, rising)
	wantForm(t, d, behind(falling, rising), swapped(d, behind(falling, rising)))
	wantForm(t, d, slices.Concat(falling, []int{0x61}, falling), slices.Concat(rising, []int{0x61}, rising))
}

// TestOneClass is P5.1 of neighbours of one class: they stay in their order however many there are, and whatever stands among them.
func TestOneClass(t *testing.T) {
	var lines []string
	for i := range 400 {
		lines = append(lines, fmt.Sprintf("%04X;%d;", 0x1000+i, 1+i%4))
	}
	d := load(t, strings.Join(lines, "\n"))
	for _, step := range []int{1, 3, 7, 399} {
		var l []int
		var want [5][]int
		for i := range 400 {
			n := 0x1000 + i*step%400
			l = append(l, n)
			want[d.Class(n)] = append(want[d.Class(n)], n)
		}
		wantForm(t, d, l, slices.Concat(want[:]...))
		wantForm(t, d, want[2], want[2])
	}
}

// TestRows is P5.1 of rows at the beginning, between starters, and at the end.
func TestRows(t *testing.T) {
	d := load(t, odd)
	wantForm(t, d, []int{0x301, 0x323, 0x327, 0x61}, []int{0x327, 0x323, 0x301, 0x61})
	wantForm(t, d, []int{0x61, 0x301, 0x323, 0x62}, []int{0x61, 0x323, 0x301, 0x62})
	wantForm(t, d, []int{0x61, 0x301, 0x323, 0x327}, []int{0x61, 0x327, 0x323, 0x301})
	wantForm(t, d, []int{0x301, 0x323, 0x61, 0x62, 0x301, 0x323}, []int{0x323, 0x301, 0x61, 0x62, 0x323, 0x301})
	wantForm(t, d, []int{0x301, 0x61, 0x323}, []int{0x301, 0x61, 0x323})
	wantForm(t, d, []int{0x347, 0x323}, []int{0x301, 0x61, 0x327, 0x323})
	wantForm(t, d, []int{0x323, 0x347, 0x345}, []int{0x323, 0x301, 0x61, 0x327, 0x323, 0x301})
	wantForm(t, d, []int{0x344, 0x345}, []int{0x323, 0x306, 0x301, 0x301})
	wantForm(t, d, []int{0x348, 0x327}, []int{0x61, 0x327, 0x323, 0x306, 0x301})
}

// TestAllShort is P5.1 and P5.2, all short lists of some numbers held against the change of neighbours.
func TestAllShort(t *testing.T) {
	some := []int{0x61, 0x301, 0x306, 0x323, 0x327, 0x344, 0x345, 0x346, 0x347, 0x348, -1}
	for _, text := range []string{odd, example} {
		d := load(t, text)
		for _, l := range lists(some, 4) {
			wantForm(t, d, l, swapped(d, l))
		}
	}
}

// TestFormOfForm is P5.3: what is a Form stays as it is, and Is just that.
func TestFormOfForm(t *testing.T) {
	d := load(t, odd)
	for _, l := range lists([]int{0x61, 0x301, 0x323, 0x344, 0x345, 0x347}, 5) {
		form := Form(d, l)
		if again := Form(d, form); !slices.Equal(again, form) {
			t.Fatalf("Form(Form(%x)) = %x, not %x", l, again, form)
		}
		if !Is(d, form) || !Same(d, l, form) {
			t.Fatalf("Form(%x) = %x: Is %v, Same %v", l, form, Is(d, form), Same(d, l, form))
		}
	}
}

// TestTwoLists is P5.3 of two lists, one behind the other, empty or not, that meet at a starter or at none.
func TestTwoLists(t *testing.T) {
	d := load(t, odd)
	all := lists([]int{0x61, 0x301, 0x323, 0x345, 0x346, 0x347}, 3)
	met, parted := 0, 0
	for _, a := range all {
		for _, b := range all {
			fa, fb := Form(d, a), Form(d, b)
			both := Form(d, behind(a, b))
			if !slices.Equal(both, Form(d, behind(fa, fb))) {
				t.Fatalf("%x, %x: %x", a, b, both)
			}
			if len(fa) == 0 || len(fb) == 0 || d.Class(fb[0]) == 0 || d.Class(fa[len(fa)-1]) == 0 {
				parted++
				if !slices.Equal(both, behind(fa, fb)) {
					t.Fatalf("%x, %x: %x, not %x", a, b, both, behind(fa, fb))
				}
			} else if !slices.Equal(both, behind(fa, fb)) {
				met++
			}
		}
	}
	if met == 0 || parted == 0 {
		t.Error(met, parted)
	}
}

// TestEquality is P5.3: Same is an equality, and tells apart what has not the same Form.
func TestEquality(t *testing.T) {
	d := load(t, odd)
	all := lists([]int{0x61, 0x62, 0x301, 0x323, 0x345, 0x346}, 3)
	names := map[string]int{}
	var classes []int
	for _, l := range all {
		name := fmt.Sprint(swapped(d, l))
		if _, is := names[name]; !is {
			names[name] = len(names)
		}
		classes = append(classes, names[name])
	}
	for i, a := range all {
		for j, b := range all {
			if Same(d, a, b) != (classes[i] == classes[j]) {
				t.Fatalf("Same(%x, %x) = %v", a, b, Same(d, a, b))
			}
		}
	}
	if len(names) == len(all) {
		t.Error("no two lists were the same")
	}
}

// TestChangePlaces is P5.3 of two neighbours made of themselves: just those of unlike classes, neither a starter, may change places.
func TestChangePlaces(t *testing.T) {
	d := load(t, odd)
	for _, l := range lists([]int{0x61, 0x62, 0x301, 0x306, 0x323, 0x327}, 4) {
		for i := 1; i < len(l); i++ {
			a, b := l[i-1], l[i]
			m := slices.Clone(l)
			m[i-1], m[i] = b, a
			x, y := d.Class(a), d.Class(b)
			may := a == b || x != 0 && y != 0 && x != y
			if len(l) == 2 && Same(d, l, m) != may || may && !Same(d, l, m) {
				t.Fatalf("Same(%x, %x) = %v", l, m, Same(d, l, m))
			}
		}
	}
}

// TestNoData is R2 of a nil object: nothing, whatever the lists are.
func TestNoData(t *testing.T) {
	for _, l := range [][]int{nil, {}, {1}, {0x61, 0x301}, {0xac00}} {
		if f := Form(nil, l); len(f) != 0 {
			t.Errorf("Form(nil, %x) = %x", l, f)
		}
		if Is(nil, l) || Same(nil, l, l) || Same(nil, l, nil) || Same(nil, nil, l) {
			t.Errorf("of no data: true of %x", l)
		}
	}
}

// TestMemory is R2: lists that are handed in stay as they are, their spare room too; what comes out is new memory.
func TestMemory(t *testing.T) {
	d := load(t, odd)
	for _, l := range [][]int{{0x61, 0x62}, {0x323, 0x301}, {0x301, 0x323, 0x345}, {0x348, 0x327}, {0xac01, 0x301, 0x323}, {0x345}, {}} {
		room := append(slices.Clone(l), 0x301, 0x323, 0x301, 0x323)
		kept := slices.Clone(room)
		in := room[:len(l)]
		want := swapped(d, l)
		first := Form(d, in)
		Is(d, in)
		Same(d, in, in)
		if !slices.Equal(room, kept) {
			t.Errorf("%x: became %x", kept, room)
		}
		first = first[:cap(first)]
		for i := range first {
			first[i] = -7
		}
		if !slices.Equal(room, kept) {
			t.Errorf("%x: an answer shares it", l)
		}
		wantForm(t, d, in, want)
	}
	if l := d.Parts(0x348); !slices.Equal(l, []int{0x61, 0x306, 0x301, 0x323}) {
		t.Errorf("the data's own list became %x", l)
	}
}

// TestLong is R1: long rows are sorted in a bearable time, and every number counts.
func TestLong(t *testing.T) {
	d := load(t, odd)
	const n = 100000
	in := slices.Repeat([]int{0x301, 0x306, 0x323, 0x327}, n)
	want := slices.Concat(slices.Repeat([]int{0x327}, n), slices.Repeat([]int{0x323}, n), slices.Repeat([]int{0x301, 0x306}, n))
	wantForm(t, d, in, want)
	if Same(d, in, in[1:]) || Same(d, in, in[:len(in)-1]) {
		t.Error("Same of lists of unlike lengths")
	}
	wantForm(t, d, slices.Repeat([]int{0x345, 0x61}, n), slices.Repeat([]int{0x323, 0x301, 0x61}, n))
}
