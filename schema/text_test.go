package schema

import (
	"fmt"
	"math/big"
	"math/rand"
	"slices"
	"strconv"
	"strings"
	"testing"
	"unsafe"

	"dovetail/api"
)

// checkParse holds Parse of a text against the chapter's words; what is read is printed and read again (P11.5).
func checkParse(t *testing.T, r plainReader, text string) api.Errno {
	t.Helper()
	want, fault := r.parse(text)
	s, err := Parse(text)
	if fault != nil {
		if !isFault(err, fault.Code, fault.At, fault.Path) || !same(s, api.Schema{}) {
			t.Fatalf("%s: %s, not %s", brief(text), told(err), told(fault))
		}
		return fault.Code
	}
	if err != nil || !same(s, want) {
		t.Fatalf("%s: %s, %+v, not %+v", brief(text), told(err), s, want)
	}
	if err := Check(s); err != nil {
		t.Fatalf("%s: Check says %s", brief(text), told(err))
	}
	checkPrint(t, s)
	return api.OK
}

// checkPrint holds Print of a schema that may be, and is not too long, against the chapter's words; Parse of it is the schema (P11.5).
func checkPrint(t *testing.T, s api.Schema) {
	t.Helper()
	text, err := Print(s)
	if want := plainPrint(s); err != nil || text != want {
		t.Fatalf("%s: printed as %s, %s", brief(want), brief(text), told(err))
	}
	if again, err := Parse(text); err != nil || !same(again, s) {
		t.Fatalf("%s: read as %+v, %s", brief(text), again, told(err))
	}
}

// wantLine: Parse of a text gives up with ErrSchemaLine at a line.
func wantLine(t *testing.T, text string, line int) {
	t.Helper()
	wantFault(t, text, api.ErrSchemaLine, line)
}

// wantFault: Parse of a text is that Fault, and no schema.
func wantFault(t *testing.T, text string, code api.Errno, line int, path ...int) {
	t.Helper()
	if s, err := Parse(text); !isFault(err, code, line, path) || !same(s, api.Schema{}) {
		t.Errorf("%s: %s, not error %d at %d path %v", brief(text), told(err), code, line, path)
	}
}

// wantRead: Parse of a text is that schema.
func wantRead(t *testing.T, text string, want api.Schema) {
	t.Helper()
	if s, err := Parse(text); err != nil || !same(s, want) {
		t.Errorf("%s: %+v, %s", brief(text), s, told(err))
	}
}

// TestPrintExamples is the chapter's table on Print.
func TestPrintExamples(t *testing.T) {
	for _, c := range []struct {
		s    api.Schema
		want string
	}{
		{api.Schema{Limit: 64, Fields: []api.Field{{Name: "a", Kind: api.Int, Down: true, Nulls: api.NullLast, Bounded: true, Low: num(-5), High: num(300)}}},
			"limit 64\nfield a int down null-last from -5 to 300\n"},
		{of(tupleField("t", boolField("x"), api.Field{Name: "y", Kind: api.Text, Collate: api.Collate{Strength: 2, Back: true}})),
			"limit 9\nfield t tuple\n  field x bool\n  field y text strength 2 back\nend\n"},
		{api.Schema{Limit: 65536, Fields: []api.Field{
			tupleField("a", tupleField("b", boolField("c")), api.Field{Name: "d", Kind: api.ID, Nulls: api.NullFirst}),
			{Name: "e", Kind: api.Bytes, Most: 65536}, {Name: "f", Kind: api.Name, Down: true}, {Name: "g", Kind: api.Int}, {Name: "h", Kind: api.Int, Bounded: true},
			{Name: "i", Kind: api.Text, Down: true, Nulls: api.NullFirst, Collate: api.Collate{Strength: 4, Shifted: true, Back: true}},
			{Name: "j", Kind: api.Tuple, Down: true, Nulls: api.NullLast, Fields: []api.Field{tupleField("k", tupleField("l", boolField("m")))}}}},
			"limit 65536\n" +
				"field a tuple\n  field b tuple\n    field c bool\n  end\n  field d id null-first\nend\n" +
				"field e bytes most 65536\nfield f name down most 0\nfield g int\nfield h int from 0 to 0\n" +
				"field i text down null-first strength 4 shifted back\n" +
				"field j tuple down null-last\n  field k tuple\n    field l tuple\n      field m bool\n    end\n  end\nend\n"},
	} {
		if text, err := Print(c.s); err != nil || text != c.want {
			t.Errorf("%s, %s", brief(text), told(err))
		}
		wantRead(t, c.want, c.s)
	}
}

// TestPrint is P11.4 and P11.5: schemas of every shape, printed and read; Check's Fault of those that may not be.
func TestPrint(t *testing.T) {
	r := rand.New(rand.NewSource(114))
	for range 3000 {
		s := rightSchema(r)
		checkPrint(t, s)
		s = changed(r, s)
		if why, path, _ := plainCheck(s); why != api.OK {
			if text, err := Print(s); text != "" || !isFault(err, why, 0, path) {
				t.Fatalf("%+v: %s, %s", s, brief(text), told(err))
			}
		}
	}
	checkPrint(t, of(nested(16, boolField("a"))))
	checkPrint(t, of(many(64)...))
	checkPrint(t, of(tupleField("t", many(63)...)))
}

// TestPrintKinds is P11.4: each kind with each of the words that it may have.
func TestPrintKinds(t *testing.T) {
	for k := api.Bool; k <= api.Tuple; k++ {
		for bits := range 32 {
			f := api.Field{Name: "a", Kind: k, Down: bits&1 != 0, Nulls: api.Nulls(bits >> 1 & 3)}
			if f.Nulls > api.NullLast {
				continue
			}
			switch k {
			case api.Int:
				if bits&8 != 0 {
					f.Bounded, f.Low, f.High = true, num(-int64(bits)), num(int64(bits)<<40)
				}
			case api.Bytes, api.Name:
				f.Most = bits >> 3
			case api.Text:
				f.Collate = api.Collate{Strength: 1 + bits>>3&1, Shifted: bits&8 != 0, Back: bits&16 != 0}
			case api.Tuple:
				f.Fields = many(1 + bits>>3)
			}
			checkPrint(t, of(f))
		}
	}
}

// digits is a number with that many decimal digits.
func digits(n int, below bool) api.Num {
	x := new(big.Int).Exp(big.NewInt(10), big.NewInt(int64(n-1)), nil)
	return api.Num{Below: below, Mag: string(x.Bytes())}
}

// long is a schema whose text has n bytes, about 65536: as many fields of greater numbers as that takes, all of them within that many tuples.
func long(n, deep int) api.Schema {
	const wide = 600 // digits of a number at most
	fields := make([]api.Field, 64-deep)
	whole := func() api.Schema {
		l := fields
		for range deep {
			l = []api.Field{tupleField("t", l...)}
		}
		return of(l...)
	}
	for i := range fields {
		fields[i] = bounded("f"+strconv.Itoa(i), num(-1), num(1))
	}
	left := n - len(plainPrint(whole()))
	for i := range fields {
		more := min(left, wide)
		fields[i].High = digits(1+more, false)
		left -= more
		more = min(left, wide)
		fields[i].Low = digits(1+more, true)
		left -= more
	}
	return whole()
}

// TestLong is P11.3 and P11.4: texts of 65536 and more bytes, printed and read, with and without their last line feed.
func TestLong(t *testing.T) {
	for _, deep := range []int{0, 1, 5, 10} {
		for n := 65530; n <= 65540; n++ {
			s := long(n, deep)
			want := plainPrint(s)
			if len(want) != n {
				t.Fatalf("%d bytes, not %d", len(want), n)
			}
			text, err := Print(s)
			if n > 65536 {
				if text != "" || !isFault(err, api.ErrLong, 0, nil) {
					t.Errorf("%d bytes: %s, %s", n, brief(text), told(err))
				}
			} else if text != want || err != nil {
				t.Errorf("%d bytes: %s, %s", n, brief(text), told(err))
			}
			// whatever makes the text shorter, it is what would be printed that counts
			lines := strings.Split(want, "\n")
			for i := range lines {
				lines[i] = strings.TrimLeft(lines[i], " ")
			}
			for _, text := range []string{want, want[:n-1], strings.Join(lines, "\n"), strings.TrimSuffix(strings.Join(lines, "\n"), "\n")} {
				if n > 65536 {
					wantFault(t, text, api.ErrLong, 0)
				} else {
					wantRead(t, text, s)
				}
			}
		}
	}
}

// TestParseLong is P11.3: a text of 65536 bytes is read, a longer one is not, whatever it says.
func TestParseLong(t *testing.T) {
	short := "limit 9\nfield a bool\n"
	for _, of1 := range []string{" ", "\n", "#", "# \n"} {
		fill := strings.Repeat(of1, 65536)
		wantRead(t, short+fill[:65536-len(short)], of(boolField("a")))
		wantRead(t, (fill[:65536-len(short)-1] + "\n" + short), of(boolField("a")))
		wantFault(t, short+fill[:65537-len(short)], api.ErrLong, 0)
		wantFault(t, fill[:65537-len(short)-1]+"\n"+short, api.ErrLong, 0)
		wantLine(t, fill[:65536], len(plainLines(fill[:65536]))+1)
	}
	wantLine(t, strings.Repeat("x", 65536), 1)
	wantFault(t, strings.Repeat("x", 65537), api.ErrLong, 0)
	wantFault(t, strings.Repeat("x", 1<<20), api.ErrLong, 0)
	wantFault(t, "limit 0\nfield A bool\n"+strings.Repeat(" ", 65536), api.ErrLong, 0)
	// Check's error is ahead of what Print says
	s := long(65537, 1)
	s.Fields[0].Name = "T"
	bare := strings.ReplaceAll(plainPrint(s), "  field", "field")
	wantFault(t, bare, api.ErrSchemaName, 2, 0)
	wantLine(t, strings.Replace(bare, "end", "End", 1), 66)
}

// TestParseExamples is the chapter's table on Parse.
func TestParseExamples(t *testing.T) {
	wantLine(t, "limit 9\nfield a tuple\nfield b bool\n", 4)
	wantLine(t, "limit 9\nfield a tuple\nfield b bool", 4)
	wantFault(t, "limit 9\n\nfield a int from 5 to 3\n", api.ErrSchemaRange, 3, 0)
	wantLine(t, "", 1)
	wantLine(t, "limit 09", 1)
	wantLine(t, "limit 9\nend", 2)
	wantLine(t, "limit 9\nfield a bytes", 2)
	wantLine(t, "limit 9\nfield a bool down down", 2)
}

// TestParseLines is P11.3: remarks, blanks, empty lines, the line feed that the last line may lack, and the numbers of lines with them.
func TestParseLines(t *testing.T) {
	ab := of(boolField("a"), tupleField("b", boolField("c")))
	for _, text := range []string{
		"limit 9\nfield a bool\nfield b tuple\nfield c bool\nend\n",
		"limit 9\nfield a bool\nfield b tuple\nfield c bool\nend",
		"limit 9\nfield a bool\nfield b tuple\nfield c bool\nend ",
		"limit 9\nfield a bool\nfield b tuple\nfield c bool\nend#",
		"limit 9\nfield a bool\nfield b tuple\nfield c bool\nend\n\n\n",
		"\n\n   \n# x\n   # limit 8\n  limit   9  # limit\nfield a bool# field\n  \nfield b   tuple#\n      field c bool ###\n#end\nend#end\n#",
		"limit 9#\xff\x00\t\r\nfield a bool\nfield b tuple\n field c bool\nend",
	} {
		wantRead(t, text, ab)
	}
	for _, c := range []struct {
		text string
		line int
	}{
		{"", 1}, {"\n", 2}, {"\n\n", 3}, {"#", 2}, {"#\n", 2}, {"# x\n\n  \n", 4}, {" ", 2}, {"\n ", 3}, {"\n#x", 3},
		{"x", 1}, {"\nx", 2}, {"\nx\n", 2}, {"#\n#\nfield a bool", 3}, {"end", 1}, {"Limit 9", 1}, {"limit", 1}, {"limit 9 9", 1}, {"limit#9", 1}, {"limit #9\nlimit 9\n", 1}, {"limit9", 1},
		{"limit 9\nlimit 9", 2}, {"limit 9\nfield a bool\nlimit 9", 3}, {"limit 9\nfield a tuple\nlimit 9\nend", 3},
		{"limit 9\nfield a bool\nend", 3}, {"limit 9\nfield a tuple\nend\nend", 4}, {"limit 9\nfield a tuple\nend\n\nend\n", 5}, {"limit 9\nend\nfield", 2},
		{"limit 9\nfield a tuple", 3}, {"limit 9\nfield a tuple\n", 3}, {"limit 9\nfield a tuple\n\n#\n", 5}, {"limit 9\nfield a tuple\nfield b tuple\nend\n", 5},
		{"limit 9\nfield a tuple\nfield b tuple\nend end", 4}, {"limit 9\nfield a tuple\nend x", 3}, {"limit 9\nfield a tuple\nEnd", 3}, {"limit 9\nfield a tuple\nend\t", 3},
		{"limit 9\n\tfield a bool", 2}, {"limit 9\nfield\ta bool", 2}, {"limit 9\nfield a\tbool", 2}, {"limit 9\nfield a bool\t", 2}, {"limit 9\r\nfield a bool\r\n", 1}, {"limit 9\nfield a bool\r\n", 2}, {"limit 9\n\r\nfield a bool", 2},
		{"limit 9\nfield", 2}, {"limit 9\nfield a", 2}, {"limit 9\nfield a#bool", 2}, {"limit 9\nfield #a bool", 2}, {"limit 9\nfield bool", 2}, {"limit 9\nField a bool", 2}, {"limit 9\nfield a Bool", 2}, {"limit 9\nfield a null", 2}, {"limit 9\nfield a b bool", 2}, {"limit 9\nbool a", 2}, {"limit 9\na", 2},
		{"limit 9\nfield a\nbool", 2}, {"limit 9\nfield a bool\n\nx", 4}, {"limit 9\nfield A bool\nx", 3}, {"limit 0\nx", 2}, {"limit 0\nfield a tuple", 3}, {"\xef\xbb\xbflimit 9\nfield a bool", 1}, {"limit 9\x00", 1}, {"limit\u00a09", 1},
	} {
		wantLine(t, c.text, c.line)
	}
}

// TestParseWords is P11.3: which words each kind has, in which order, and how often.
func TestParseWords(t *testing.T) {
	for _, c := range []struct {
		kind string
		good []string
		bad  []string
	}{
		{"bool", []string{"", "down", "null-first", "null-last", "down null-first", "down null-last"},
			[]string{"down down", "null-first down", "null-first null-last", "null-last null-first", "null-first null-first", "most 1", "from 0 to 1", "strength 1", "shifted", "back", "x", "up", "null", "5"}},
		{"id", []string{"", "down", "null-last"}, []string{"most 16", "most 0", "from 0 to 1", "strength 1", "shifted", "back", "null-last down"}},
		{"int", []string{"", "down", "from 0 to 0", "null-last from -5 to 300", "down null-first from -1 to -1"},
			[]string{"from", "from 0", "from 0 to", "to 0", "0 to 1", "from to 1", "from 0 1", "from 0 to 1 2", "to 1 from 0", "from 0 to 1 from 0 to 1", "from 0 to 1 down", "from 0 to 1 null-last", "from 00 to 1", "from 0 to 01", "from -0 to 1", "from +0 to 1", "from 0 to 1x", "from a to b", "from 0 TO 1", "most 1", "strength 1", "shifted", "back"}},
		{"bytes", []string{"most 0", "most 1", "most 65536", "down most 8", "down null-last most 8"},
			[]string{"", "down", "most", "most most", "most 1 2", "most 1 most 1", "most 1 down", "8", "most -1", "most +1", "most 01", "most 00", "most x", "most 1 from 0 to 1", "from 0 to 1 most 1", "most 1 strength 1", "most 1 back", "most 12345678"}},
		{"name", []string{"most 0", "most 1", "most 65536", "down most 8", "null-first most 8"},
			[]string{"", "down", "most", "most 1 2", "most 1 down", "most -1", "most 1.0", "most 0x1", "most 1 shifted"}},
		{"text", []string{"strength 1", "strength 2", "strength 3 shifted", "strength 4 shifted", "strength 4 shifted back", "strength 1 back", "down null-last strength 3 back"},
			[]string{"", "shifted", "back", "strength", "strength x", "strength 1 back shifted", "strength 1 shifted shifted", "strength 1 back back", "shifted strength 1", "strength 1 2", "strength 1 strength 1", "strength 01", "strength -1", "strength 1 most 1", "most 1 strength 1", "strength 1 down", "strength 1 null-last", "strength 1 from 0 to 1"}},
	} {
		for _, words := range c.good {
			text := "limit 9\nfield a " + c.kind + " " + words
			s, err := Parse(text)
			if err != nil {
				t.Errorf("%s: %s", brief(text), told(err))
				continue
			}
			if got := mustPrint(t, s); got != strings.TrimRight(text, " ")+"\n" {
				t.Errorf("%s: printed as %s", brief(text), brief(got))
			}
			inner := "limit 9\nfield t tuple\nfield a " + c.kind + " " + words + "\nend"
			if _, err := Parse(inner); err != nil {
				t.Errorf("%s: %s", brief(inner), told(err))
			}
		}
		for _, words := range c.bad {
			wantLine(t, "limit 9\nfield a "+c.kind+" "+words, 2)
			wantLine(t, "limit 9\n\nfield t tuple\nfield a "+c.kind+" "+words+"\nend", 4)
		}
	}
	for _, words := range []string{"", "down", "null-first", "down null-last"} {
		wantFault(t, "limit 9\nfield a tuple "+words+"\nend", api.ErrSchemaEmpty, 2, 0)
		if s, err := Parse("limit 9\nfield a tuple " + words + "\nfield b bool\nend"); err != nil || len(s.Fields) != 1 || len(s.Fields[0].Fields) != 1 {
			t.Errorf("%s: %+v, %s", words, s, told(err))
		}
	}
	for _, words := range []string{"end", "down down", "null-first down", "most 1", "from 0 to 1", "strength 1", "back", "field"} {
		wantLine(t, "limit 9\nfield a tuple "+words+"\nfield b bool\nend", 2)
	}
}

// TestParseNumbers is P11.3: digits with a 0 ahead, 7 and 8 of them; numbers that are too long.
func TestParseNumbers(t *testing.T) {
	r := newPlainReader()
	for n := 0; n <= 9; n++ {
		for _, digit := range []string{"0", "1", "9"} {
			word := strings.Repeat(digit, n)
			for _, c := range []struct{ ahead, behind string }{{"limit ", "\nfield a bool"}, {"limit 9\nfield a bytes most ", ""}, {"limit 9\nfield a name most ", ""}, {"limit 9\nfield a text strength ", ""}, {"limit 9\nfield a text strength ", " shifted"}} {
				line := strings.Count(c.ahead, "\n") + 1
				text := c.ahead + word + c.behind
				if n == 0 || n > 7 || digit == "0" && n > 1 {
					wantLine(t, text, line)
					continue
				}
				if e := checkParse(t, r, text); e != api.OK && e != api.ErrSchemaRange {
					t.Errorf("%s: error %d", brief(text), e)
				}
			}
		}
	}
	wantRead(t, "limit 65536\nfield a bool", api.Schema{Limit: 65536, Fields: []api.Field{boolField("a")}})
	wantRead(t, "limit 1\nfield a bytes most 65536", api.Schema{Limit: 1, Fields: []api.Field{{Name: "a", Kind: api.Bytes, Most: 65536}}})
	wantFault(t, "limit 0\nfield a bool", api.ErrSchemaRange, 1)
	wantFault(t, "limit 65537\nfield a bool", api.ErrSchemaRange, 1)
	wantFault(t, "limit 9999999\nfield a bool", api.ErrSchemaRange, 1)
	wantLine(t, "limit 10000000\nfield a bool", 1)
	wantFault(t, "limit 9\nfield a bytes most 65537", api.ErrSchemaRange, 2, 0)
	wantFault(t, "limit 9\nfield a bytes most 9999999", api.ErrSchemaRange, 2, 0)
	wantFault(t, "limit 9\nfield a text strength 0", api.ErrSchemaRange, 2, 0)
	wantFault(t, "limit 9\nfield a text strength 4", api.ErrSchemaRange, 2, 0)
	wantFault(t, "limit 9\nfield a text strength 5 shifted", api.ErrSchemaRange, 2, 0)
	greatest := new(big.Int).Lsh(big.NewInt(1), 255*8)
	beyond := greatest.String()
	most := greatest.Sub(greatest, big.NewInt(1)).String()
	long255 := api.Num{Mag: strings.Repeat("\xff", 255)}
	wantRead(t, "limit 9\nfield a int from -"+most+" to "+most, of(bounded("a", api.Num{Below: true, Mag: long255.Mag}, long255)))
	wantLine(t, "limit 9\nfield a int from 0 to "+beyond, 2)
	wantLine(t, "limit 9\nfield a int from -"+beyond+" to 0", 2)
	wantLine(t, "limit 9\nfield a int from 0 to 1"+strings.Repeat("0", 60000), 2)
}

// TestParseFaults is P11.3: Check's number and path, with the line of that field, wherever it stands; ErrSchemaLine ahead of it.
func TestParseFaults(t *testing.T) {
	for _, c := range []struct {
		text string
		code api.Errno
		line int
		path []int
	}{
		{"\n\nlimit 9", api.ErrSchemaEmpty, 3, nil},
		{"# x\nlimit 9\n# y\n", api.ErrSchemaEmpty, 2, nil},
		{"limit 0", api.ErrSchemaRange, 1, nil},
		{"\nlimit 70000\nfield A bool\n", api.ErrSchemaRange, 2, nil},
		{"limit 9\n\n\nfield A bool", api.ErrSchemaName, 4, []int{0}},
		{"limit 9\nfield a bool\n#\nfield a bool", api.ErrSchemaTwice, 4, []int{1}},
		{"limit 9\nfield t tuple\nfield a bool\n\nfield A bool\nend", api.ErrSchemaName, 5, []int{0, 1}},
		{"limit 9\nfield t tuple\nfield a bool\nend\n\nfield t bool\nend", api.ErrSchemaLine, 7, nil},
		{"limit 9\nfield t tuple\nfield a bool\nend\n\nfield t bool", api.ErrSchemaTwice, 6, []int{1}},
		{"limit 9\nfield a bool\n\nfield t tuple\nend", api.ErrSchemaEmpty, 4, []int{1}},
		{"limit 9\nfield a bool\nfield t tuple\nfield u tuple\n\nfield v tuple\n#\nend\nend\nend", api.ErrSchemaEmpty, 6, []int{1, 0, 0}},
		{"limit 9\nfield t tuple\nfield u tuple\nfield x bool\nend\nfield y int from 1 to 0\nend\nfield A bool", api.ErrSchemaRange, 6, []int{0, 1}},
		{"limit 9\nfield abcdefghijklmnopq bool", api.ErrSchemaName, 2, []int{0}},
		{"limit 9\nfield \xff bool", api.ErrSchemaName, 2, []int{0}},
		{"limit 9\nfield a\tb bool", api.ErrSchemaName, 2, []int{0}},
		{"limit 9\nfield - bool", api.ErrSchemaName, 2, []int{0}},
		{"limit 9\nfield " + strings.Repeat("a", 60000) + " bool", api.ErrSchemaName, 2, []int{0}},
	} {
		wantFault(t, c.text, c.code, c.line, c.path...)
	}
	wantRead(t, "limit 9\nfield field bool\nfield end bool\nfield down bool down", of(boolField("field"), boolField("end"), api.Field{Name: "down", Kind: api.Bool, Down: true}))
	lines := func(n int) string {
		out := ""
		for i := range n {
			out += fmt.Sprintf("field f%d bool\n", i)
		}
		return out
	}
	wantFault(t, "limit 9\n"+lines(65), api.ErrSchemaMany, 66, 64)
	wantFault(t, "limit 9\n\n"+lines(2000), api.ErrSchemaMany, 67, 64)
	wantFault(t, "limit 9\nfield t tuple\n"+lines(64)+"end", api.ErrSchemaMany, 66, 0, 63)
	wantLine(t, "limit 9\nfield t tuple\n"+lines(64), 67)
	wantRead(t, "limit 9\n"+lines(64), of(many(64)...))
	for _, n := range []int{15, 16, 17, 4000} {
		text := "limit 9\n" + strings.Repeat("field d tuple\n", n) + "field a bool\n" + strings.Repeat("end\n", n)
		switch {
		case len(text) > 65536:
			wantFault(t, text, api.ErrLong, 0)
		case n <= 15:
			wantRead(t, text, of(nested(n+1, boolField("a"))))
		default:
			wantFault(t, text, api.ErrSchemaDeep, 18, make([]int, 17)...)
			wantLine(t, text+"end", 2*n+3)
			wantLine(t, strings.TrimSuffix(text, "end\n"), 2*n+2)
		}
	}
	deep := "limit 9\n" + strings.Repeat("field d tuple\n", 3500)
	wantLine(t, deep, 3502)
	wantFault(t, deep+strings.Repeat("end\n", 3500), api.ErrSchemaDeep, 18, make([]int, 17)...)
}

// TestParseRows is P11.3: all short rows of words behind each kind, held against the chapter's words.
func TestParseRows(t *testing.T) {
	r := newPlainReader()
	words := []string{"down", "null-first", "null-last", "from", "to", "most", "strength", "shifted", "back", "2", "-2", "02"}
	seen := map[api.Errno]int{}
	var grow func(text string, left int)
	grow = func(text string, left int) {
		seen[checkParse(t, r, text)]++
		if left == 0 {
			return
		}
		for _, w := range words {
			grow(text+" "+w, left-1)
		}
	}
	for _, k := range []string{"bool", "int", "bytes", "id", "name", "text", "tuple", "limit"} {
		grow("limit 9\nfield a "+k, 3)
	}
	grow("limit 9\nfield a int from 2", 3)
	grow("limit 9\nfield a int down from -2 to", 3)
	grow("limit 9\nfield a text strength 2", 3)
	grow("limit 9\nfield a text down null-last strength 3", 3)
	grow("limit 9\nfield a bytes null-first most 2", 2)
	if seen[api.OK] < 30 || seen[api.ErrSchemaLine] < 1000 {
		t.Errorf("not all of it was asked: %v", seen)
	}
}

// someTexts are texts of schemas that may be, not too long.
func someTexts(r *rand.Rand, n int) []string {
	var l []string
	for len(l) < n {
		if text := plainPrint(rightSchema(r)); len(text) < 300 {
			l = append(l, text)
		}
	}
	return l
}

// TestParseNearly is P11.3: texts that differ from a right one by a byte, a word or a line, and their beginnings and ends.
func TestParseNearly(t *testing.T) {
	r := newPlainReader()
	random := rand.New(rand.NewSource(113))
	seen := map[api.Errno]int{}
	for _, text := range someTexts(random, 40) {
		for at := range len(text) + 1 {
			seen[checkParse(t, r, text[:at])]++
			seen[checkParse(t, r, text[at:])]++
			for _, other := range []string{"\n", " ", "#", "0", "-", "a", "A", "\t", "\x00", "\xff"} {
				seen[checkParse(t, r, text[:at]+other+text[at:])]++
				if at < len(text) {
					seen[checkParse(t, r, text[:at]+other+text[at+1:])]++
				}
			}
			if at < len(text) {
				seen[checkParse(t, r, text[:at]+text[at+1:])]++
			}
		}
	}
	for _, text := range someTexts(random, 100) {
		for _, between := range []string{" ", "\n"} {
			l := strings.Split(text, between)
			for i := range l {
				for k := range l {
					swapped := slices.Clone(l)
					swapped[i], swapped[k] = l[k], l[i]
					seen[checkParse(t, r, strings.Join(swapped, between))]++
				}
				seen[checkParse(t, r, strings.Join(slices.Delete(slices.Clone(l), i, i+1), between))]++
				seen[checkParse(t, r, strings.Join(slices.Insert(slices.Clone(l), i, l[i]), between))]++
			}
		}
	}
	for _, e := range []api.Errno{api.OK, api.ErrSchemaLine, api.ErrSchemaName, api.ErrSchemaRange, api.ErrSchemaTwice, api.ErrSchemaEmpty} {
		if seen[e] < 100 {
			t.Errorf("not all of it was asked: %v", seen)
		}
	}
}

// TestParseMixed is P11.3: rows of lines, whether they make sense together or not.
func TestParseMixed(t *testing.T) {
	r := newPlainReader()
	random := rand.New(rand.NewSource(1113))
	lines := []string{"field a bool", "field b int", "field c tuple", "field d tuple", "field e tuple", "end", "end", "end", "", "  # end", "field B bool", "field f int from 2 to 1", "field g bytes most 70000", "field h text strength 4 back", "limit 9", "field i"}
	seen := map[api.Errno]int{}
	for range 30_000 {
		text := []string{"", "limit 9\n", "limit 9\n", "limit 9\n", "limit 0\n", "\nlimit 9 # x\n"}[random.Intn(6)]
		for range random.Intn(9) {
			l := random.Intn(len(lines))
			if random.Intn(3) > 0 {
				l = random.Intn(10)
			}
			text += lines[l] + "\n"
		}
		if random.Intn(2) == 0 {
			text = strings.TrimSuffix(text, "\n")
		}
		seen[checkParse(t, r, text)]++
	}
	for _, e := range []api.Errno{api.OK, api.ErrSchemaLine, api.ErrSchemaName, api.ErrSchemaRange, api.ErrSchemaTwice, api.ErrSchemaEmpty} {
		if seen[e] < 100 {
			t.Errorf("not all of it was asked: %v", seen)
		}
	}
}

// loosened is a text with blanks, remarks and lines that say nothing put into it, and the number that each of its lines has then (from 1 on; behind the last one too).
func loosened(r *rand.Rand, text string) (string, []int) {
	var out strings.Builder
	numbers := []int{0}
	line := 1
	idle := func() {
		for range r.Intn(3) {
			out.WriteString([]string{"\n", "   \n", "# limit 1\n", "  #\n", "#field a bool # end\n"}[r.Intn(5)])
			line++
		}
	}
	lines := plainLines(text)
	for _, l := range lines {
		idle()
		numbers = append(numbers, line)
		out.WriteString(strings.Repeat(" ", r.Intn(3)))
		for i := range len(l) {
			out.WriteByte(l[i])
			if l[i] == ' ' {
				out.WriteString(strings.Repeat(" ", r.Intn(3)))
			}
		}
		out.WriteString([]string{"", " ", "#", " # end", "#\xff\x00"}[r.Intn(5)])
		out.WriteString("\n")
		line++
	}
	idle()
	whole := out.String()
	if r.Intn(2) == 0 {
		whole = strings.TrimSuffix(whole, "\n")
	}
	return whole, append(numbers, len(plainLines(whole))+1)
}

// TestLoosened is P11.5: remarks, blanks and lines that say nothing change nothing but the numbers of lines.
func TestLoosened(t *testing.T) {
	r := rand.New(rand.NewSource(115))
	seen := map[bool]int{}
	for range 3000 {
		text := plainPrint(rightSchema(r))
		if r.Intn(2) == 0 {
			l := strings.Split(text, "\n")
			i := r.Intn(len(l))
			l[i] = []string{"end", "field A bool", "field a int from 2 to 1", "field t tuple", "x", "limit 9"}[r.Intn(6)]
			text = strings.Join(l, "\n")
		}
		loose, numbers := loosened(r, text)
		want, wantErr := Parse(text)
		got, err := Parse(loose)
		if wantErr == nil {
			if err != nil || !same(got, want) {
				t.Fatalf("%s: %s, %s", brief(text), brief(loose), told(err))
			}
		} else if f := wantErr.(*api.Fault); !isFault(err, f.Code, numbers[f.At], f.Path) {
			t.Fatalf("%s: %s; %s: %s, not at %d", brief(text), told(f), brief(loose), told(err), numbers[f.At])
		}
		seen[wantErr == nil]++
	}
	if seen[true] < 500 || seen[false] < 500 {
		t.Errorf("not all of it was asked: %v", seen)
	}
}

// TestParseMemory is R2: what Parse gives does not change with the text, and is another one each time; so are Faults.
func TestParseMemory(t *testing.T) {
	r := rand.New(rand.NewSource(1114))
	for range 300 {
		want := rightSchema(r)
		memory := []byte(plainPrint(want))
		s, err := Parse(unsafe.String(&memory[0], len(memory)))
		if err != nil {
			t.Fatal(told(err))
		}
		for i := range memory {
			memory[i] = '?'
		}
		if !same(s, want) {
			t.Errorf("%+v: it changed with its text", s)
		}
	}
	text := "limit 9\nfield t tuple\nfield a bool\nfield A bool\nend"
	_, a := Parse(text)
	_, b := Parse(text)
	if a == b {
		t.Error("one Fault twice")
	}
	a.(*api.Fault).Path[0] = 9
	if _, c := Parse(text); b.(*api.Fault).Path[0] != 0 || c.(*api.Fault).Path[0] != 0 {
		t.Error("Faults share a path")
	}
	text = "limit 9\nfield t tuple\nfield a bool\nend"
	first, _ := Parse(text)
	first.Fields[0].Fields[0].Name = "other"
	wantRead(t, text, of(tupleField("t", boolField("a"))))
}
