package match

import (
	"fmt"
	"math/rand"
	"slices"
	"strings"
	"testing"

	"dovetail/api"
	"dovetail/normal"
	"dovetail/table"
	"dovetail/ucd"
)

// data is what a text of marks says.
func data(t *testing.T, lines ...string) *ucd.Data {
	t.Helper()
	d, err, line := ucd.Load(strings.Join(lines, "\n"))
	if err != api.OK {
		t.Fatalf("marks: %d in line %d", err, line)
	}
	return d
}

// entries is a table of rows, written as points with blanks between; the n-th one's only element has the primary weight 1000 + n.
func entries(t *testing.T, rows ...string) *table.Table {
	t.Helper()
	var lines []string
	for i, row := range rows {
		lines = append(lines, fmt.Sprintf("%s;[.%04X.0020.0002]", row, 0x1000+i))
	}
	return loaded(t, lines...)
}

func loaded(t *testing.T, lines ...string) *table.Table {
	t.Helper()
	x, err, line := table.Load(strings.Join(lines, "\n"))
	if err != api.OK {
		t.Fatalf("entries: %d in line %d", err, line)
	}
	return x
}

// points reads numbers with blanks between.
func points(s string) []int {
	var l []int
	for _, f := range strings.Fields(s) {
		var n int
		fmt.Sscanf(f, "%x", &n)
		l = append(l, n)
	}
	return l
}

// rows reads rows with "; " between.
func rows(s string) [][]int {
	var l [][]int
	for _, f := range strings.Split(s, ";") {
		if row := points(f); row != nil {
			l = append(l, row)
		}
	}
	return l
}

func same(a, b [][]int) bool { return slices.EqualFunc(a, b, slices.Equal[[]int]) }

// chapter is the chapter's data and table.
func chapter(t *testing.T) (*ucd.Data, *table.Table) {
	return data(t, "0323;220;", "0324;220;", "0301;230;", "0306;230;"),
		entries(t, "0061", "0063", "0063 0068", "0061 0301", "0061 0323 0301", "0323", "0324", "0301", "0306", "0300 0301")
}

// plainSteps does word for word what the chapter says, on one list, point by point.
func plainSteps(d *ucd.Data, x *table.Table, l []int) [][]int {
	isEntry := func(row []int) bool {
		_, is := x.Find(row)
		return is
	}
	rest := slices.Clone(normal.Form(d, l))
	var out [][]int
	for len(rest) > 0 {
		n := len(rest)
		for n > 0 && !isEntry(rest[:n]) {
			n--
		}
		row := slices.Clone(rest[:max(n, 1)])
		rest = rest[len(row):]
		if n > 0 {
			var stayed []int
			for len(rest) > 0 && d.Class(rest[0]) != 0 {
				point := rest[0]
				rest = rest[1:]
				blocked := slices.ContainsFunc(stayed, func(s int) bool { return d.Class(s) >= d.Class(point) })
				if longer := slices.Concat(row, []int{point}); !blocked && isEntry(longer) {
					row = longer
				} else {
					stayed = append(stayed, point)
				}
			}
			rest = slices.Concat(stayed, rest)
		}
		out = append(out, row)
	}
	return out
}

// plainElements are those of plainSteps.
func plainElements(d *ucd.Data, x *table.Table, l []int) []api.Element {
	var out []api.Element
	for _, row := range plainSteps(d, x, l) {
		if e, is := x.Find(row); is {
			out = append(out, e...)
		} else {
			out = append(out, table.Implied(row[0])...)
		}
	}
	return out
}

// hold tells whether Steps and Elements are what the chapter's words give.
func hold(t *testing.T, d *ucd.Data, x *table.Table, l []int) {
	t.Helper()
	if got, want := Steps(d, x, l), plainSteps(d, x, l); !same(got, want) {
		t.Fatalf("Steps(%x): %x, not %x", l, got, want)
	}
	if got, want := Elements(d, x, l), plainElements(d, x, l); !slices.Equal(got, want) {
		t.Fatalf("Elements(%x): %v, not %v", l, got, want)
	}
}

// TestExamples is P7.1: the chapter's examples.
func TestExamples(t *testing.T) {
	d, x := chapter(t)
	for _, c := range []struct{ points, rows string }{
		{"63 68 63", "63 68; 63"},
		{"61 323 301", "61 323 301"},
		{"61 324 301", "61 301; 324"},
		{"61 306 301", "61; 306; 301"},
		{"61 301 323", "61 323 301"},
		{"61 68 301", "61; 68; 301"},
		{"300 301", "300 301"},
		{"300", "300"},
		{"61 324 323 301", "61 301; 324; 323"},
	} {
		if got := Steps(d, x, points(c.points)); !same(got, rows(c.rows)) {
			t.Errorf("%s: %x, not %s", c.points, got, c.rows)
		}
	}
}

// TestSteps is P7.1: the edges that the chapter's words have.
func TestSteps(t *testing.T) {
	d := data(t, "0300;200;", "0301;201;", "0302;202;", "0303;202;", "0304;203;", "0305;204;", "0306;205;", "0307;206;", "0308;207;", "0309;208;", "00E1;0;0061 0302", "00E2;0;00E1 0300")
	for _, c := range []struct{ why, table, points, rows string }{
		{"no points", "0061", "", ""},
		{"a table without entries", "", "61 301 61", "61; 301; 61"},
		{"no entry has them", "0061", "62 301 62", "62; 301; 62"},
		{"the longest beginning", "0061; 0061 0062; 0061 0062 0063 0064", "61 62 63 64", "61 62 63 64"},
		{"the longest beginning that is an entry's", "0061; 0061 0062; 0061 0062 0063 0064", "61 62 63 65", "61 62; 63; 65"},
		{"the rest ends within the longest one", "0061; 0061 0062; 0061 0062 0063 0064", "61 62 63", "61 62; 63"},
		{"entries that begin alike, none of them so short", "0061 0062 0063", "61 62", "61; 62"},
		{"a beginning over a starter", "0300 0061", "300 61", "300 61"},
		{"a beginning over starters and marks", "0300 0061 0301 0062; 0300", "300 61 301 62 302", "300 61 301 62; 302"},
		{"a mark that stands further behind", "0061; 0061 0304", "61 300 302 304", "61 304; 300; 302"},
		{"of those of one class the first one", "0061; 0061 0302", "61 302 302", "61 302; 302"},
		{"blocked by its own class", "0061; 0061 0303", "61 302 303", "61; 302; 303"},
		{"not blocked, if the one ahead of it in its class left", "0061; 0061 0302; 0061 0302 0303", "61 302 303", "61 302 303"},
		{"the one ahead of it left, and was passed by others", "0061; 0061 0302; 0061 0302 0303", "61 300 302 303 304", "61 302 303; 300; 304"},
		{"blocked, though an entry comes of it later", "0061; 0061 0304; 0061 0304 0300", "61 300 304", "61 304; 300"},
		{"a starter ends the walk", "0061; 0061 0304", "61 300 62 304", "61; 300; 62; 304"},
		{"a starter ends the walk at once", "0061; 0061 0304", "61 62 304", "61; 62; 304"},
		{"no starter joins", "0061; 0061 0304; 0061 0304 0062", "61 300 304 62", "61 304; 300; 62"},
		{"several marks join one row, one by one", "0061; 0061 0300; 0061 0300 0302; 0061 0300 0302 0305", "61 300 301 302 304 305", "61 300 302 305; 301; 304"},
		{"a row between them is no entry", "0061; 0061 0300 0302", "61 300 301 302", "61; 300; 301; 302"},
		{"a row between them is no entry, but the beginning is", "0061; 0061 0300 0301; 0061 0300 0301 0304", "61 300 301 302 304", "61 300 301 304; 302"},
		{"what is no entry's has nothing join it", "0061 0304", "61 300 304", "61; 300; 304"},
		{"those left begin rows of their own", "0061; 0061 0304; 0300 0302; 0300", "61 300 304 302", "61 304; 300 302"},
		{"those left have others join them", "0061; 0061 0304; 0300; 0300 0302", "61 300 301 302 304", "61 304; 300 302; 301"},
		{"marks ahead of all starters", "0300; 0300 0304", "304 302 300", "300 304; 302"},
		{"marks join a row that ends in a mark", "0061 0300; 0061 0300 0303", "61 303 301 300", "61 300 303; 301"},
		{"marks join a row of starters", "0061 0062; 0061 0062 0301", "61 62 300 301", "61 62 301; 300"},
		{"seven marks make a row as long as may be", "0061; 0061 0300; 0061 0300 0302; 0061 0300 0302 0304; 0061 0300 0302 0304 0305; 0061 0300 0302 0304 0305 0306; 0061 0300 0302 0304 0305 0306 0307; 0061 0300 0302 0304 0305 0306 0307 0308",
			"61 300 301 302 304 305 306 307 308 309", "61 300 302 304 305 306 307 308; 301; 309"},
		{"eight points that stand together", "0061 0062 0063 0064 0065 0066 0067 0068; 0061", "61 62 63 64 65 66 67 68 300", "61 62 63 64 65 66 67 68; 300"},
		{"eight points, with one other", "0061 0062 0063 0064 0065 0066 0067 0068; 0061", "61 62 63 64 65 66 67 69", "61; 62; 63; 64; 65; 66; 67; 69"},
		{"decomposed first", "0061; 0061 0302; 00E1; 00E2", "e1 e2", "61 302; 61 302; 300"},
		{"decomposed, and then in order", "0061 0300 0302", "e1 300", "61 300 302"},
		{"an entry of what is decomposed is met by nothing", "00E1", "e1", "61; 302"},
		{"a syllable's letters", "1100 1161; AC01; 11A8", "ac01", "1100 1161; 11a8"},
		{"numbers that are no points", "0061; 0061 0300", "d800 61 110000 300 dfff", "d800; 61; 110000; 300; dfff"},
		{"the greatest point", "10FFFF; 10FFFF 0300", "10ffff 300 10ffff", "10ffff 300; 10ffff"},
		{"the point 0", "0000; 0000 0000; 0000 0000 0300", "0 0 0 300", "0 0; 0; 300"},
	} {
		x := loaded(t)
		if c.table != "" {
			x = entries(t, strings.Split(c.table, "; ")...)
		}
		if got := Steps(d, x, points(c.points)); !same(got, rows(c.rows)) {
			t.Errorf("%s: %s: %x, not %s", c.why, c.points, got, c.rows)
		}
	}
}

// TestStrangeNumbers is P7.1, P7.2: any numbers, the least and the greatest one too, are rows of their own without elements.
func TestStrangeNumbers(t *testing.T) {
	d, x := chapter(t)
	strange := []int{-1, -1 << 63, 1<<63 - 1, 0xd800, 0xdfff, 0x110000, 0x61 - 1<<32, 0x61 + 1<<32}
	for _, n := range strange {
		if got := Steps(d, x, []int{0x61, n, 0x301}); !same(got, [][]int{{0x61}, {n}, {0x301}}) {
			t.Errorf("%x: %x", n, got)
		}
		if got := Elements(d, x, []int{n, n}); len(got) != 0 {
			t.Errorf("%x: %v", n, got)
		}
		if got := Elements(d, x, []int{0x61, n, 0x301}); len(got) != 2 || got[0].Primary != 0x1000 || got[1].Primary != 0x1007 {
			t.Errorf("%x: %v", n, got)
		}
	}
}

// TestElements is P7.2: all elements of each entry, in order, those of nought too; implied ones of what stands nowhere.
func TestElements(t *testing.T) {
	d := data(t, "0301;230;", "0323;220;", "00E1;0;0061 0301")
	x := loaded(t,
		"0061;[.1000.0020.0002]",
		"0061 0301;[.1001.0021.0003][.0000.0024.0002][*0205.0001.0001]",
		"0323;[.0000.0000.0000]",
		"0301;[.0000.0024.0002]",
		"4E00;[.0000.0000.0009]")
	long := []api.Element{{Primary: 0x1001, Secondary: 0x21, Tertiary: 3}, {Secondary: 0x24, Tertiary: 2}, {Variable: true, Primary: 0x205, Secondary: 1, Tertiary: 1}}
	a := api.Element{Primary: 0x1000, Secondary: 0x20, Tertiary: 2}
	mark := api.Element{Secondary: 0x24, Tertiary: 2}
	of := func(l ...[]api.Element) []api.Element { return slices.Concat(l...) }
	one := func(l ...api.Element) []api.Element { return l }
	for _, c := range []struct {
		points string
		want   []api.Element
	}{
		{"", nil},
		{"61", one(a)},
		{"e1", long},
		{"61 301 301", of(long, one(mark))},
		{"61 301 323", of(long, one(api.Element{}))},
		{"323 61", of(one(api.Element{}), one(a))},
		{"4e00", one(api.Element{Tertiary: 9})},
		{"4e01", one(api.Element{Primary: 0xfb40, Secondary: 0x20, Tertiary: 2}, api.Element{Primary: 0xce01})},
		{"20000 301", one(api.Element{Primary: 0xfb84, Secondary: 0x20, Tertiary: 2}, api.Element{Primary: 0x8000}, mark)},
		{"41 61", one(api.Element{Primary: 0xfbc0, Secondary: 0x20, Tertiary: 2}, api.Element{Primary: 0x8041}, a)},
		{"10ffff", one(api.Element{Primary: 0xfbe1, Secondary: 0x20, Tertiary: 2}, api.Element{Primary: 0xffff})},
		{"d800 61", one(a)},
	} {
		if got := Elements(d, x, points(c.points)); !slices.Equal(got, c.want) {
			t.Errorf("%s: %v, not %v", c.points, got, c.want)
		}
	}
}

// TestAllShortLists is P7.1, P7.2: all lists of up to six points are gone through as the chapter's words say.
func TestAllShortLists(t *testing.T) {
	d := data(t, "0300;220;", "0301;220;", "0302;230;", "0303;230;", "00E1;0;0061 0302")
	letters := points("61 62 300 301 302 303")
	for _, x := range []*table.Table{
		entries(t, "0061", "0061 0302", "0061 0300 0303", "0061 0302 0303", "0300", "0300 0302", "0301 0062", "0062 0061"),
		entries(t, "0061", "0061 0300", "0061 0301", "0061 0300 0301", "0061 0300 0301 0302", "0061 0302", "0061 0302 0302", "0062 0062 0301"),
		entries(t, "0061 0061", "0061 0061 0303", "0300 0300", "0300 0300 0300", "0300 0300 0302", "0302", "0302 0303 0061"),
	} {
		var all func(l []int)
		all = func(l []int) {
			hold(t, d, x, l)
			if len(l) == 6 {
				return
			}
			for _, n := range letters {
				all(append(l, n))
			}
		}
		all(make([]int, 0, 6))
	}
}

// world is data and a table, and the numbers that its texts are made of.
type world struct {
	d       *ucd.Data
	x       *table.Table
	letters []int
}

// someWorld has few classes, parts, and rows that begin alike: so that most texts meet some of them.
func someWorld(t *testing.T, r *rand.Rand) world {
	letters := points("61 62 63 300 301 302 303 304 305 e1 e2 ac00 ac01 1100 d800 110000")
	marks := []string{"00E1;0;0061 0302 0300", "00E2;0;00E1 0301"}
	for n := range 6 {
		marks = append(marks, fmt.Sprintf("030%d;%d;", n, r.Intn(4)))
	}
	made := map[string]int{}
	rows := []string{"0061"}
	for range 30 {
		row := rows[r.Intn(len(rows))]
		if r.Intn(4) == 0 {
			row = ""
		}
		for range 1 + r.Intn(2) {
			row = strings.TrimSpace(row + fmt.Sprintf(" %04X", []int{0x61, 0x62, 0x300, 0x301, 0x302, 0x303, 0x304, 0x305, 0x1100, 0x1161}[r.Intn(10)]))
		}
		if made[row]++; made[row] == 1 && row != "0061" && len(strings.Fields(row)) <= api.MaxSequence {
			rows = append(rows, row)
		}
	}
	return world{data(t, marks...), entries(t, rows...), letters}
}

// text is n of its numbers.
func (w world) text(r *rand.Rand, n int) []int {
	var l []int
	for range n {
		l = append(l, w.letters[r.Intn(len(w.letters))])
	}
	return l
}

// TestSomeTexts is P7.1, P7.2: longer texts, by tables of many sorts, are gone through as the chapter's words say.
func TestSomeTexts(t *testing.T) {
	r := rand.New(rand.NewSource(7))
	for range 300 {
		w := someWorld(t, r)
		for range 40 {
			hold(t, w.d, w.x, w.text(r, r.Intn(40)))
		}
	}
}

// TestAllPoints is P7.3: the rows have the points of the Form, each as often as it stands there.
func TestAllPoints(t *testing.T) {
	r := rand.New(rand.NewSource(8))
	for range 200 {
		w := someWorld(t, r)
		l := w.text(r, 60)
		got, want := slices.Concat(Steps(w.d, w.x, l)...), normal.Form(w.d, l)
		slices.Sort(got)
		slices.Sort(want)
		if !slices.Equal(got, want) {
			t.Fatalf("%x: %x, not %x", l, got, want)
		}
	}
}

// TestSame is P7.3: points that are canonically the same have the same steps and elements.
func TestSame(t *testing.T) {
	r := rand.New(rand.NewSource(9))
	for range 200 {
		w := someWorld(t, r)
		l := w.text(r, 60)
		other := normal.Form(w.d, l)
		for range 100 {
			i := r.Intn(len(other) - 1)
			a, b := w.d.Class(other[i]), w.d.Class(other[i+1])
			if a != 0 && b != 0 && a != b {
				other[i], other[i+1] = other[i+1], other[i]
			}
		}
		if !normal.Same(w.d, l, other) {
			t.Fatalf("%x, %x: not the same", l, other)
		}
		if a, b := Steps(w.d, w.x, l), Steps(w.d, w.x, other); !same(a, b) {
			t.Fatalf("%x: %x, %x", l, a, b)
		}
		if a, b := Elements(w.d, w.x, l), Elements(w.d, w.x, other); !slices.Equal(a, b) {
			t.Fatalf("%x: %v, %v", l, a, b)
		}
	}
}

// TestSinglePoints is P7.3: by entries of one point each, each row is one point, in the Form's order.
func TestSinglePoints(t *testing.T) {
	r := rand.New(rand.NewSource(10))
	x := entries(t, "0061", "0300", "0302", "0305", "1161", "00E1")
	for range 100 {
		w := someWorld(t, r)
		l := w.text(r, 60)
		form := normal.Form(w.d, l)
		got := Steps(w.d, x, l)
		if len(got) != len(form) {
			t.Fatalf("%x: %x", l, got)
		}
		for i, row := range got {
			if !slices.Equal(row, form[i:i+1]) {
				t.Fatalf("%x: %x is not %x", l, row, form[i])
			}
		}
	}
}

// TestMoreBehind is P7.3: what begins with a starter changes few of the last steps ahead of it.
func TestMoreBehind(t *testing.T) {
	r := rand.New(rand.NewSource(11))
	changed := 0
	for range 300 {
		w := someWorld(t, r)
		longest := 0
		for _, e := range w.x.Entries() {
			longest = max(longest, len(e.Points))
		}
		for range 20 {
			a, b := w.text(r, 1+r.Intn(20)), w.text(r, 1+r.Intn(20))
			if w.d.Class(normal.Form(w.d, b)[0]) != 0 {
				continue
			}
			first := Steps(w.d, w.x, a)
			both := Steps(w.d, w.x, slices.Concat(a, b))
			n := 0
			for n < len(first) && n < len(both) && slices.Equal(first[n], both[n]) {
				n++
			}
			if n < len(first)-longest {
				t.Fatalf("%x, %x: %x, %x", a, b, first, both)
			}
			changed += len(first) - n
		}
	}
	if changed == 0 {
		t.Error("no text was changed by what stands behind it: the test tells nothing")
	}
}

// TestNil is R2: of a nil d or t: nothing.
func TestNil(t *testing.T) {
	d, x := chapter(t)
	l := points("61 324 301 41")
	for _, c := range []struct {
		d *ucd.Data
		x *table.Table
	}{{nil, x}, {d, nil}, {nil, nil}} {
		if len(Steps(c.d, c.x, l)) != 0 || len(Elements(c.d, c.x, l)) != 0 || len(Steps(c.d, c.x, nil)) != 0 || len(Elements(c.d, c.x, nil)) != 0 {
			t.Error("something of nothing")
		}
	}
	if len(Steps(d, x, nil)) != 0 || len(Elements(d, x, []int{})) != 0 {
		t.Error("something of no points")
	}
}

// TestMemory is R2: what is handed in stays as it is, its spare room too; what comes out is new memory, and no two rows share any.
func TestMemory(t *testing.T) {
	d, x := chapter(t)
	l := points("61 301 324 63 68 323 300 301 41 7 7 7")
	want := slices.Clone(l)
	given := l[:9]
	steps, elements := Steps(d, x, given), Elements(d, x, given)
	if !slices.Equal(l, want) {
		t.Fatalf("written into: %x", l)
	}
	for i := range steps {
		kept := fmt.Sprint(steps[i+1:])
		room := steps[i][:cap(steps[i])]
		for j := range room {
			room[j] = -7
		}
		if fmt.Sprint(steps[i+1:]) != kept {
			t.Errorf("row %d shares memory with one behind it", i)
		}
	}
	for i := range elements[:cap(elements)] {
		elements[:cap(elements)][i] = api.Element{Primary: 7}
	}
	if !slices.Equal(l, want) {
		t.Errorf("shared with what came out: %x", l)
	}
	hold(t, d, x, given)
	if got, _ := x.Find([]int{0x61, 0x301}); got[0].Primary != 0x1003 {
		t.Error("the table was changed")
	}
	for i := range l {
		l[i] = 0x61
	}
	if got := Steps(d, x, want[:9]); !same(got, plainSteps(d, x, want[:9])) {
		t.Errorf("kept: %x", got)
	}
}

// TestAgain is R2: the same call answers the same, whatever was asked ahead.
func TestAgain(t *testing.T) {
	r := rand.New(rand.NewSource(12))
	w := someWorld(t, r)
	l := w.text(r, 80)
	first := fmt.Sprint(Steps(w.d, w.x, l), Elements(w.d, w.x, l))
	for range 20 {
		Elements(w.d, w.x, w.text(r, 30))
		if got := fmt.Sprint(Steps(w.d, w.x, l), Elements(w.d, w.x, l)); got != first {
			t.Fatalf("%s, then %s", first, got)
		}
	}
}

// TestLong is R1: rows of very many marks, of one class and of all classes, are gone through, and all of them come out. (Were each step to look at all of them, the test would not end in time.)
func TestLong(t *testing.T) {
	const many = 300000
	one := make([]int, many)
	for i := range one {
		one[i] = 0x306
	}
	d, _ := chapter(t)
	x := entries(t, "0061", "0061 0301", "0306", "0306 0301", "0306 0306 0306 0301")
	got := Steps(d, x, slices.Concat([]int{0x61}, one, []int{0x323, 0x301}))
	if len(got) != many || !slices.Equal(got[0], []int{0x61}) || got[1][0] != 0x323 || !slices.Equal(got[many-1], []int{0x306, 0x306, 0x306, 0x301}) {
		t.Errorf("%d rows", len(got))
	}
	turns := make([]int, many)
	for i := range turns {
		turns[i] = []int{0x61, 0x306}[i%2]
	}
	if got := Steps(d, x, turns); len(got) != many {
		t.Errorf("%d rows", len(got))
	}
	var marks []string
	for class := 1; class <= 254; class++ {
		marks = append(marks, fmt.Sprintf("%04X;%d;", 0x1000+class, class))
	}
	d = data(t, marks...)
	x = entries(t, "10FE", "1001", "1001 0061")
	all := make([]int, 1<<15)
	for i := range all {
		all[i] = 0x1001 + i%254
	}
	if got := Elements(d, x, all); len(got) < 1<<15 {
		t.Errorf("%d elements", len(got))
	}
	if len(Steps(d, x, make([]int, many))) != many {
		t.Error("noughts")
	}
}
