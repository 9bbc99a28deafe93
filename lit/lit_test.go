package lit

import (
	"math/big"
	"math/rand"
	"slices"
	"strconv"
	"strings"
	"testing"
	"unsafe"

	"dovetail/api"
	"dovetail/value"
)

// checkParse holds Parse of a text against the chapter's words.
func checkParse(t *testing.T, r plainReader, s string) api.Errno {
	t.Helper()
	p, wantError, wantAt := r.parse(s)
	v, e, at := Parse(s)
	if e != wantError || at != wantAt {
		t.Fatalf("%s: error %d at %d, not %d at %d", brief(s), e, at, wantError, wantAt)
	}
	switch {
	case e != api.OK && v != nil:
		t.Fatalf("%s: a value beside error %d", brief(s), e)
	case e == api.OK && (v == nil) != (p.Kind == api.Null):
		t.Fatalf("%s: null is not the nil interface, or nil is not null", brief(s))
	case e == api.OK && !sameParts(value.Tell(v), p):
		t.Fatalf("%s: read as %s", brief(s), brief(plainPrint(value.Tell(v))))
	}
	return e
}

// wantPlace: Parse of a text gives up with ErrLitForm at a place, and no value.
func wantPlace(t *testing.T, s string, want int) {
	t.Helper()
	if v, e, at := Parse(s); v != nil || e != api.ErrLitForm || at != want {
		t.Errorf("%s: error %d at %d, not at %d", brief(s), e, at, want)
	}
}

// wantRead: Parse of a text is that value, and Print of it the text.
func wantRead(t *testing.T, s string, p api.Part) {
	t.Helper()
	v, e, at := Parse(s)
	if e != api.OK || at != 0 || !sameParts(value.Tell(v), p) {
		t.Errorf("%s: error %d at %d, or another value", brief(s), e, at)
		return
	}
	if got, e := Print(v); e != api.OK || got != s {
		t.Errorf("%s: printed as %s, error %d", brief(s), brief(got), e)
	}
}

// TestPrint is P10.1: values of every shape, as the chapter's table says.
func TestPrint(t *testing.T) {
	for _, p := range someParts() {
		want := plainPrint(p)
		if len(want) > 65536 {
			t.Fatalf("%s is for another test", brief(want))
		}
		if got, e := Print(must(t, p)); got != want || e != api.OK {
			t.Errorf("%s: %s, error %d", brief(want), brief(got), e)
		}
	}
}

// TestPrintExamples is the chapter's table on Print; each is read back as well (P10.3).
func TestPrintExamples(t *testing.T) {
	for _, c := range []struct {
		p    api.Part
		want string
	}{
		{api.Part{}, "null"},
		{api.Part{Kind: api.Bool, Yes: true}, "yes"},
		{api.Part{Kind: api.Bool}, "no"},
		{num("-256"), "-256"},
		{num("0"), "0"},
		{rawOf(api.Bytes, "\x00\xff"), "x00ff"},
		{rawOf(api.Bytes, ""), "x"},
		{rawOf(api.ID, "0123456789\xab\xcd\xef\x00\xff\x0a"), "#30313233343536373839abcdef00ff0a"},
		{rawOf(api.Name, `it's "\`), `'it\'s "\\'`},
		{rawOf(api.Text, "a\"\x0a"), `"a\"\x0a"`},
		{rawOf(api.Text, `it's "\`), `"it's \"\\"`},
		{rawOf(api.Name, ""), `''`},
		{rawOf(api.Text, ""), `""`},
		{row(), "()"},
		{row(num("1"), row(api.Part{})), "(1 (null))"},
		{row(rawOf(api.Bytes, ""), rawOf(api.Name, ""), api.Part{Kind: api.Bool}, row(), row()), "(x '' no () ())"},
	} {
		if got, e := Print(must(t, c.p)); got != c.want || e != api.OK {
			t.Errorf("%s: %s, error %d", c.want, brief(got), e)
		}
		wantRead(t, c.want, c.p)
	}
}

// TestPrintEveryByte is P10.1: how each byte stands between either quote, and in digits.
func TestPrintEveryByte(t *testing.T) {
	for c := range 256 {
		s := string([]byte{byte(c)})
		two := strconv.FormatInt(int64(256+c), 16)[1:]
		name, text := `\x`+two, `\x`+two
		if c >= 0x20 && c <= 0x7e {
			name, text = s, s
		}
		if c == '\'' || c == '\\' {
			name = `\` + s
		}
		if c == '"' || c == '\\' {
			text = `\` + s
		}
		wantRead(t, "'"+name+"'", rawOf(api.Name, s))
		wantRead(t, `"`+text+`"`, rawOf(api.Text, s))
		wantRead(t, "x"+two, rawOf(api.Bytes, s))
		wantRead(t, "#"+strings.Repeat(two, 16), rawOf(api.ID, strings.Repeat(s, 16)))
	}
}

// checkLong: Print answers a text of at most 65536 bytes, and of a longer one ErrLong and nothing else.
func checkLong(t *testing.T, v value.Value, want string) {
	t.Helper()
	got, e := Print(v)
	switch {
	case len(want) > 65536 && (got != "" || e != api.ErrLong):
		t.Errorf("%s: %d bytes, error %d", brief(want), len(got), e)
	case len(want) <= 65536 && (got != want || e != api.OK):
		t.Errorf("%s: %d bytes, error %d", brief(want), len(got), e)
	}
	if len(want) > 65536 {
		return
	}
	if back, e, at := Parse(want); e != api.OK || at != 0 || !value.Same(back, v) {
		t.Errorf("%s: read with error %d at %d", brief(want), e, at)
	}
}

// TestPrintLong is P10.1: texts of about 65536 bytes, by each kind that can be so long.
func TestPrintLong(t *testing.T) {
	for n := 65530; n <= 65536; n++ {
		for _, k := range []api.Kind{api.Name, api.Text} {
			p := rawOf(k, strings.Repeat("a", n))
			checkLong(t, must(t, p), plainPrint(p))
		}
	}
	for _, c := range []struct {
		of    string
		about int
	}{{"\x00", 16383}, {"\x7f", 16383}, {"\xff", 16383}, {`\`, 32767}, {`'`, 32767}, {`"`, 32767}} {
		for n := c.about - 2; n <= c.about+2; n++ {
			for _, more := range []string{"", "a", "aa", "aaa", c.of + "a"} {
				for _, k := range []api.Kind{api.Name, api.Text, api.Bytes} {
					p := rawOf(k, strings.Repeat(c.of, n)+more)
					checkLong(t, must(t, p), plainPrint(p))
				}
			}
		}
	}
	for _, n := range []int{32766, 32767, 32768, 32769, 65535, 65536} {
		p := rawOf(api.Bytes, strings.Repeat("\xa5", n))
		checkLong(t, must(t, p), plainPrint(p))
	}
	for _, s := range []string{strings.Repeat("\xff", 65536), strings.Repeat("'", 65536), strings.Repeat("a", 65536)} {
		for _, k := range []api.Kind{api.Name, api.Text, api.Bytes} {
			checkLong(t, must(t, rawOf(k, s)), plainPrint(rawOf(k, s)))
		}
	}
}

// TestPrintLongTuples is P10.1: tuples of about 65536 bytes, with each kind of value at the end, where the last byte that has room is one of each of its things.
func TestPrintLongTuples(t *testing.T) {
	id := strings.Repeat("\x0a", 16)
	for _, last := range []api.Part{{}, {Kind: api.Bool}, {Kind: api.Bool, Yes: true}, num("0"), num("-256"), rawOf(api.Bytes, "\x00\x01"), rawOf(api.Bytes, ""),
		rawOf(api.ID, id), rawOf(api.Name, "a'\x00"), rawOf(api.Text, `"a`), row(), row(api.Part{}, row(num("1")))} {
		for _, p := range []api.Part{row(last), row(rawOf(api.Name, ""), last), row(rawOf(api.Name, ""), row(row(last), last), last)} {
			short := len(plainPrint(p))
			for pad := 65536 - short - 12; pad <= min(65536-short+12, 65536); pad++ {
				filled := row(append([]api.Part{rawOf(api.Name, strings.Repeat("a", pad))}, p.Items...)...)
				checkLong(t, must(t, filled), plainPrint(filled))
			}
		}
	}
}

// TestPrintEnds is P10.1 with R1: a tuple that has another one very many times over is given up soon.
func TestPrintEnds(t *testing.T) {
	for _, innermost := range []value.Value{nil, must(t, rawOf(api.Bytes, "")), must(t, row()), must(t, rawOf(api.Text, strings.Repeat("\xff", 65536))), must(t, num("-12"))} {
		v := innermost
		for value.Depth(v) < 16 {
			l, e := value.Of(slices.Repeat([]value.Value{v}, 1024)...)
			if e != api.OK {
				t.Fatal(e)
			}
			v = l
		}
		if s, e := Print(v); s != "" || e != api.ErrLong {
			t.Errorf("%d bytes, error %d", len(s), e)
		}
	}
}

// TestParseExamples is the chapter's table on Parse, and more places of errors of each kind.
func TestParseExamples(t *testing.T) {
	for _, c := range []struct {
		s  string
		at int
	}{
		{"(1  2)", 3}, {"( 1)", 1}, {"(1 )", 3}, {"(1", 2}, {"(", 1},
		{"01", 0}, {"-0", 0}, {"-", 0}, {"yess", 3}, {"1 ", 1}, {"nul", 0}, {"", 0},
		{"x0", 0}, {"x0A", 0}, {"(#00)", 1}, {`"\x41"`, 0}, {`'\"'`, 0}, {`"a`, 0}, {"x0g", 0}, {"xg", 1},
		{")", 0}, {" ", 0}, {" 1", 0}, {"()(", 2}, {"())", 2}, {"() ", 2}, {"(()", 3}, {"( )", 1}, {"(1)2", 3}, {"(1,2)", 2}, {"(1\t2)", 2}, {"(1\n)", 2},
		{"(1 2", 4}, {"(1 ", 3}, {"((1) (2  3))", 8}, {"(1 (2 (3 (x0))))", 10}, {"(1 (2 (3 (x0", 10}, {"(1(2))", 2}, {"(1'a')", 2}, {"('a''b')", 4}, {`('a'"b")`, 4},
		{"n", 0}, {"nu", 0}, {"nO", 0}, {"Null", 0}, {"NULL", 0}, {"y", 0}, {"ye", 0}, {"(nul)", 1}, {"(ye", 1}, {"nullnull", 4}, {"noo", 2}, {"nono", 2}, {"nonull", 2}, {"yesno", 3}, {"no ", 2}, {"true", 0}, {"false", 0},
		{"+1", 0}, {"--1", 0}, {"-01", 0}, {"00", 0}, {"(00)", 1}, {"(1 -0)", 3}, {"1-", 1}, {"1-2", 1}, {"0x", 1}, {"0x00", 1}, {"1.5", 1}, {"1e5", 1}, {"-x", 0}, {"- 1", 0}, {"1a", 1},
		{"x000", 0}, {"x0 ", 0}, {"X00", 0}, {"x00A", 3}, {"xA", 1}, {"x00 ", 3}, {"xx", 1}, {"x00x00", 3}, {"(x0)", 1}, {"(x00 x0 x)", 5}, {"x-", 1},
		{"#", 0}, {"##", 0}, {"(#)", 1}, {"# ", 0},
		{"'", 0}, {`"`, 0}, {"'\"", 0}, {"\"'", 0}, {"('a", 1}, {"(1 'a)", 3}, {`'\'`, 0}, {`"\"`, 0}, {`'\\\'`, 0}, {`'a\`, 0}, {`'a'b`, 3}, {`''a'`, 2}, {`'a''`, 3}, {`"a"'`, 3},
		{`'\`, 0}, {`'\x`, 0}, {`'\x0`, 0}, {`'\x00`, 0}, {`'\x'`, 0}, {`'\x0'`, 0}, {`'\x0g'`, 0}, {`'\x0A'`, 0}, {`'\xFF'`, 0}, {`'\x'0'`, 0}, {`'\X00'`, 0}, {`'\n'`, 0}, {`'\0'`, 0}, {`'\x00\'`, 0},
		{"\x00", 0}, {"\xff", 0}, {"a", 0}, {"[1]", 0}, {"\xef\xbb\xbf1", 0}, {"1\x00", 1}, {"(1 \x00)", 3},
	} {
		wantPlace(t, c.s, c.at)
	}
}

// TestParseShort is P10.2: all short texts of the bytes that say something, held against the chapter's words.
func TestParseShort(t *testing.T) {
	r := newPlainReader()
	good := 0
	for _, c := range []struct {
		bytes string
		long  int
	}{
		{"nulyeso-019xaf#'\"\\() AgX\x00\x7f\xff", 3},
		{"-01x(') \"", 5},
		{`'"\x07f`, 6},
		{"(1 )", 9},
	} {
		eachText(c.bytes, c.long, func(s string) {
			if checkParse(t, r, s) == api.OK {
				good++
			}
		})
	}
	if good < 300 {
		t.Errorf("only %d texts could be read", good)
	}
}

// eachText does something with all texts of these bytes that are no longer than that.
func eachText(bytes string, long int, do func(string)) {
	var grow func(string)
	grow = func(s string) {
		do(s)
		if len(s) == long {
			return
		}
		for i := range len(bytes) {
			grow(s + bytes[i:i+1])
		}
	}
	grow("")
}

// TestParseNearly is P10.2: texts that differ from a right one by a byte, at each place, and their beginnings and ends.
func TestParseNearly(t *testing.T) {
	r := newPlainReader()
	others := "nyx#0-9a'\"\\() A\x00\x7f\xff"
	seen := map[api.Errno]int{}
	for _, p := range someParts() {
		s := plainPrint(p)
		if len(s) > 100 {
			continue
		}
		for at := range len(s) + 1 {
			seen[checkParse(t, r, s[:at])]++
			seen[checkParse(t, r, s[at:])]++
			for i := range len(others) {
				seen[checkParse(t, r, s[:at]+others[i:i+1]+s[at:])]++
				if at < len(s) {
					seen[checkParse(t, r, s[:at]+others[i:i+1]+s[at+1:])]++
				}
			}
			if at < len(s) {
				seen[checkParse(t, r, s[:at]+s[at+1:])]++
			}
		}
	}
	if seen[api.OK] < 1000 || seen[api.ErrLitForm] < 1000 {
		t.Errorf("not all of it was asked: %v", seen)
	}
}

// TestParseMixed is P10.2: rows of words, whether they make sense together or not.
func TestParseMixed(t *testing.T) {
	r := newPlainReader()
	words := []string{"null", "yes", "no", "0", "-1", "12", "x", "x00", "xf", "#" + strings.Repeat("0a", 16), "#0a", "''", `'\''`, `'"'`, `""`, `"\\"`, `"\x0a"`, `"`, "'", `\`, "(", "(", "(", ")", ")", ")", " ", " ", " ", " "}
	random := rand.New(rand.NewSource(11))
	for range 100_000 {
		var s strings.Builder
		for range 1 + random.Intn(9) {
			s.WriteString(words[random.Intn(len(words))])
		}
		checkParse(t, r, s.String())
	}
}

// TestParseLong is P10.2: texts of 65536 bytes are read, longer ones are not, whatever they are.
func TestParseLong(t *testing.T) {
	for _, n := range []int{65535, 65536} {
		wantRead(t, "'"+strings.Repeat("a", n-2)+"'", rawOf(api.Name, strings.Repeat("a", n-2)))
		wantRead(t, `"`+strings.Repeat("a", n-2)+`"`, rawOf(api.Text, strings.Repeat("a", n-2)))
		wantRead(t, "('"+strings.Repeat("a", n-4)+"')", row(rawOf(api.Name, strings.Repeat("a", n-4))))
		wantPlace(t, strings.Repeat("0", n), 0)
		wantPlace(t, strings.Repeat("9", n), 0)
		wantPlace(t, strings.Repeat("(", n), 16)
		wantPlace(t, strings.Repeat(" ", n), 0)
		wantPlace(t, "'"+strings.Repeat("a", n-1), 0)
		wantPlace(t, "'"+strings.Repeat("a", n-3)+"' ", n-1)
		wantPlace(t, "#"+strings.Repeat("0", n-1), 0)
	}
	wantRead(t, "x"+strings.Repeat("a5", 32767), rawOf(api.Bytes, strings.Repeat("\xa5", 32767)))
	wantPlace(t, "x"+strings.Repeat("a5", 32767)+"0", 0)
	wantPlace(t, "x"+strings.Repeat("a5", 32767)+" ", 65535)
	wantRead(t, `"`+strings.Repeat(`\x00`, 16383)+`aa"`, rawOf(api.Text, strings.Repeat("\x00", 16383)+"aa"))
	for _, s := range []string{"'" + strings.Repeat("a", 65535) + "'", strings.Repeat("0", 65537), strings.Repeat(" ", 65537), "x" + strings.Repeat("00", 32768),
		"null" + strings.Repeat(" ", 65533), strings.Repeat("\xff", 1<<20), `"` + strings.Repeat(`\x00`, 16384) + `"`} {
		if v, e, at := Parse(s); v != nil || e != api.ErrLong || at != 0 {
			t.Errorf("%s: error %d at %d", brief(s), e, at)
		}
	}
}

// TestParseSixteen is P10.2: even and odd numbers of digits of sixteen, and 32 of them alone behind a #.
func TestParseSixteen(t *testing.T) {
	for n := range 70 {
		digits := strings.Repeat("0", n)
		if n%2 == 0 {
			wantRead(t, "x"+digits, rawOf(api.Bytes, strings.Repeat("\x00", n/2)))
			wantPlace(t, "x"+digits+"A", 1+n)
		} else {
			wantPlace(t, "x"+digits, 0)
			wantPlace(t, "(null x"+digits+")", 6)
			wantPlace(t, "x"+digits+"A", 0)
		}
		if n == 32 {
			wantRead(t, "#"+digits, rawOf(api.ID, strings.Repeat("\x00", 16)))
			wantPlace(t, "#"+digits+"A", 33)
			wantPlace(t, "#"+digits+"#", 33)
			continue
		}
		wantPlace(t, "#"+digits, 0)
		wantPlace(t, "(null #"+digits+" x)", 6)
	}
	wantPlace(t, "#"+strings.Repeat("0", 31)+"A", 0)
	wantPlace(t, "#"+strings.Repeat("0", 31)+" 0", 0)
	for c := range 256 {
		s := string([]byte{byte(c)})
		if strings.Contains("0123456789abcdef", s) {
			continue
		}
		wantPlace(t, "x0"+s, 0)
		wantPlace(t, "x"+s+"0", 1)
		wantPlace(t, "#"+strings.Repeat("0", 31)+s, 0)
	}
}

// TestParseEscapes is P10.2: a \ ahead of each byte, and of x with all two bytes behind it: only what Print tells is read.
func TestParseEscapes(t *testing.T) {
	for _, quote := range []string{"'", `"`} {
		kind := api.Name
		if quote == `"` {
			kind = api.Text
		}
		for c := range 256 {
			s := string([]byte{byte(c)})
			if s == quote || s == `\` {
				wantRead(t, quote+`\`+s+quote, rawOf(kind, s))
			} else {
				wantPlace(t, quote+`\`+s+quote, 0)
			}
			if c < 0x20 || c > 0x7e {
				wantPlace(t, quote+s+quote, 0)
				wantPlace(t, "(1 "+quote+"a"+s+quote+")", 3)
			}
		}
		for c := range 65536 {
			two := string([]byte{byte(c >> 8), byte(c)})
			n, err := strconv.ParseUint(two, 16, 8)
			if err == nil && two == strings.ToLower(two) && (n < 0x20 || n > 0x7e) {
				wantRead(t, quote+`\x`+two+quote, rawOf(kind, string([]byte{byte(n)})))
			} else {
				wantPlace(t, quote+`\x`+two+quote, 0)
			}
		}
	}
}

// TestParseQuotes is P10.2: where quotes end, and quotes of either kind within one another.
func TestParseQuotes(t *testing.T) {
	wantRead(t, `'"'`, rawOf(api.Name, `"`))
	wantRead(t, `"'"`, rawOf(api.Text, `'`))
	wantRead(t, `'"a"'`, rawOf(api.Name, `"a"`))
	wantRead(t, `"'a'"`, rawOf(api.Text, `'a'`))
	wantRead(t, `'\''`, rawOf(api.Name, `'`))
	wantRead(t, `"\""`, rawOf(api.Text, `"`))
	wantRead(t, `'\\'`, rawOf(api.Name, `\`))
	wantRead(t, `'\\\''`, rawOf(api.Name, `\'`))
	wantRead(t, `'\\x41'`, rawOf(api.Name, `\x41`))
	wantRead(t, `'x41'`, rawOf(api.Name, `x41`))
	wantRead(t, `('(1 2)' ") (")`, row(rawOf(api.Name, "(1 2)"), rawOf(api.Text, ") (")))
	wantRead(t, `('\\' "\\")`, row(rawOf(api.Name, `\`), rawOf(api.Text, `\`)))
	for n := range 40 {
		slashes := strings.Repeat(`\`, n)
		for _, quote := range []string{"'", `"`} {
			if n%2 == 1 {
				wantPlace(t, quote+slashes+quote, 0)
				continue
			}
			wantPlace(t, quote+slashes+quote+quote, n+2)
		}
	}
}

// TestParseNumbers is P10.2: the greatest numbers that may be, the next ones, and noughts ahead.
func TestParseNumbers(t *testing.T) {
	edge := new(big.Int).Lsh(big.NewInt(1), 255*8)
	most := new(big.Int).Sub(edge, big.NewInt(1)).String()
	next := edge.String()
	ff := strings.Repeat("\xff", 255)
	wantRead(t, most, api.Part{Kind: api.Int, Num: api.Num{Mag: ff}})
	wantRead(t, "-"+most, api.Part{Kind: api.Int, Num: api.Num{Below: true, Mag: ff}})
	wantRead(t, "(x "+most+" -"+most+")", row(rawOf(api.Bytes, ""), num(most), num("-"+most)))
	for _, s := range []string{next, "-" + next, "0" + most, "-0" + most, most + "0", "1" + strings.Repeat("0", 615), strings.Repeat("9", 615), strings.Repeat("9", 65536)} {
		wantPlace(t, s, 0)
		if len(s) < 65000 {
			wantPlace(t, "(null "+s+" x)", 6)
		}
	}
	for i := range 1200 {
		s := strconv.Itoa(i)
		wantRead(t, s, num(s))
		wantPlace(t, "0"+s, 0)
		wantPlace(t, "-0"+s, 0)
		wantPlace(t, "--"+s, 0)
		wantPlace(t, s+"-", len(s))
		if i > 0 {
			wantRead(t, "-"+s, num("-"+s))
		}
	}
}

// TestParseDeep is P10.2: 16 tuples within one another, and the 17th, wherever it stands.
func TestParseDeep(t *testing.T) {
	open, shut := strings.Repeat("(", 16), strings.Repeat(")", 16)
	wantRead(t, open+shut, nested(15, row()))
	wantRead(t, open+"null"+shut, nested(16, api.Part{}))
	wantRead(t, open+"'((('"+shut, nested(16, rawOf(api.Name, "(((")))
	for n := 17; n < 40; n++ {
		wantPlace(t, strings.Repeat("(", n)+strings.Repeat(")", n), 16)
		wantPlace(t, strings.Repeat("(", n)+"x0"+strings.Repeat(")", n), 16)
		wantPlace(t, strings.Repeat("(", n), 16)
	}
	wantPlace(t, open, 16)
	wantPlace(t, open+"1 ()"+shut, 18)
	wantPlace(t, "(1 "+open+shut+")", 18)
	wantPlace(t, "(x0 "+open+shut+")", 1)
	// those that are shut again do not count
	side := strings.Repeat("(", 15) + strings.Repeat(")", 15)
	wantRead(t, "("+side+" "+side+" () "+side+")", row(nested(14, row()), nested(14, row()), row(), nested(14, row())))
	wantPlace(t, "("+side+" "+side+" ("+side+"))", 1+31+31+1+14)
}

// TestParseItems is P10.2: 1024 items are read, and behind the last of them nothing but a ).
func TestParseItems(t *testing.T) {
	items := strings.Repeat("0 ", 1023) + "0"
	zeros := slices.Repeat([]api.Part{num("0")}, 1024)
	wantRead(t, "("+items[2:]+")", row(zeros[1:]...))
	wantRead(t, "("+items+")", row(zeros...))
	wantRead(t, "(("+items+") ("+items+"))", row(row(zeros...), row(zeros...)))
	for _, behind := range []string{" 0)", " ", " )", "", "0", "x", " x0)", "  0)", " 0 0)", ",", " (", "("} {
		at := 1 + len(items)
		if behind == "0" {
			at-- // it belongs to the last number, which has a nought ahead then
		}
		wantPlace(t, "("+items+behind, at)
	}
	wantPlace(t, "(("+items+") ("+items+" 0))", 2+len(items)+3+len(items))
	wantPlace(t, "("+strings.Repeat("() ", 1024)+"())", 3*1024)
	wantPlace(t, "("+strings.Repeat("0 ", 30000)+"0)", 2048)
}

// TestParseBlanks is P10.2: one blank between each two items, and none elsewhere.
func TestParseBlanks(t *testing.T) {
	r := newPlainReader()
	for _, s := range []string{"(1 2)", "(1 (2 x) 'a b' () \"\" #" + strings.Repeat("00", 16) + " null yes no)", "()", "((()))", "x00"} {
		for at := range len(s) + 1 {
			checkParse(t, r, s[:at]+" "+s[at:])
			if at < len(s) && s[at] == ' ' {
				checkParse(t, r, s[:at]+s[at+1:])
				for _, other := range []string{"\t", "\n", "\r", "\v", "\f", "\u00a0", "\u0085", ",", "  ", "+"} {
					checkParse(t, r, s[:at]+other+s[at+1:])
				}
			}
		}
	}
	wantPlace(t, " ()", 0)
	wantPlace(t, "( )", 1)
	wantPlace(t, "() ", 2)
	wantPlace(t, "(1 2 )", 5)
	wantPlace(t, "(1 2) ", 5)
	wantPlace(t, "(1\t2)", 2)
}

// TestParseBehind is P10.2: behind the whole value stands nothing.
func TestParseBehind(t *testing.T) {
	for _, c := range []struct{ s, goesOn string }{
		{"null", ""}, {"yes", ""}, {"no", ""}, {"0", "0123456789"}, {"-12", "0123456789"}, {"x", "0123456789abcdef"}, {"x00", "0123456789abcdef"},
		{"#" + strings.Repeat("0a", 16), "0123456789abcdef"}, {"'a'", ""}, {`"a"`, ""}, {"()", ""}, {"(1)", ""},
	} {
		for b := range 256 {
			more := string([]byte{byte(b)})
			if !strings.Contains(c.goesOn, more) {
				wantPlace(t, c.s+more, len(c.s))
				wantPlace(t, c.s+more+"()", len(c.s))
			}
		}
	}
}

// TestNull is P10.1 and P10.2 with R3: null is the nil interface, alone and as an item.
func TestNull(t *testing.T) {
	v, e, at := Parse("null")
	if v != nil || e != api.OK || at != 0 {
		t.Errorf("null: %v, error %d at %d", v, e, at)
	}
	v, _, _ = Parse("(null (null) null)")
	l, is := value.AsList(v)
	if !is || l.Len() != 3 || l.At(0) != nil || l.At(2) != nil {
		t.Fatal("an item that is null is not nil")
	}
	inner, is := value.AsList(l.At(1))
	if !is || inner.Len() != 1 || inner.At(0) != nil {
		t.Error("an inner item that is null is not nil")
	}
	var none value.List
	for _, v := range []value.Value{nil, none, l.At(0), inner.At(7)} {
		if s, e := Print(v); s != "null" || e != api.OK {
			t.Errorf("Print of nil: %s, error %d", brief(s), e)
		}
	}
	for _, s := range []string{"", "nul", "(null", "null "} {
		if v, _, _ := Parse(s); v != nil {
			t.Errorf("%s: not nil beside an error", brief(s))
		}
	}
}

// TestKinds is P10.2: what is read has the kind that its text says, and can do what that kind can.
func TestKinds(t *testing.T) {
	for _, c := range []struct {
		s    string
		kind api.Kind
	}{{"yes", api.Bool}, {"no", api.Bool}, {"7", api.Int}, {"x61", api.Bytes}, {"#" + strings.Repeat("61", 16), api.ID}, {"'a'", api.Name}, {`"a"`, api.Text}, {"(7)", api.Tuple}} {
		v, e, _ := Parse(c.s)
		if e != api.OK || v == nil || v.Kind() != c.kind {
			t.Fatalf("%s: error %d", c.s, e)
		}
		_, number := value.AsNumber(v)
		_, raw := value.AsRaw(v)
		_, list := value.AsList(v)
		if number != (c.kind == api.Int) || raw != (c.kind >= api.Bytes && c.kind <= api.Text) || list != (c.kind == api.Tuple) {
			t.Errorf("%s: %t, %t, %t", c.s, number, raw, list)
		}
	}
}

// TestThereAndBack is P10.3: what is printed is read as the same value, and printed as the same text.
func TestThereAndBack(t *testing.T) {
	for _, p := range someParts() {
		v := must(t, p)
		s, e := Print(v)
		if e != api.OK {
			t.Fatalf("%s: error %d", brief(plainPrint(p)), e)
		}
		w, e, at := Parse(s)
		if e != api.OK || at != 0 || !value.Same(v, w) || !sameParts(value.Tell(w), p) {
			t.Errorf("%s: error %d at %d, or another value", brief(s), e, at)
		}
		if again, e := Print(w); again != s || e != api.OK {
			t.Errorf("%s: %s, error %d", brief(s), brief(again), e)
		}
	}
}

// TestOneText is P10.3: two values have one text just if they are the same.
func TestOneText(t *testing.T) {
	var texts []string
	var values []value.Value
	for _, p := range someParts() {
		v := must(t, p)
		s, _ := Print(v)
		texts, values = append(texts, s), append(values, v)
	}
	for i, a := range texts {
		for k, b := range texts {
			if (a == b) != value.Same(values[i], values[k]) {
				t.Fatalf("%s, %s", brief(a), brief(b))
			}
		}
	}
}

// TestReadIsPrinted is P10.3: of all texts that are read at all, Print of what is read is the text.
func TestReadIsPrinted(t *testing.T) {
	good := 0
	for _, c := range []struct {
		bytes string
		long  int
	}{{"nulyeso-019xa'\"\\() ", 4}, {`'"\x07f`, 6}, {"(10 )", 8}} {
		eachText(c.bytes, c.long, func(s string) {
			v, e, _ := Parse(s)
			if e != api.OK {
				return
			}
			good++
			if got, e := Print(v); got != s || e != api.OK {
				t.Fatalf("%s: %s, error %d", brief(s), brief(got), e)
			}
		})
	}
	if good < 1000 {
		t.Errorf("only %d texts could be read", good)
	}
}

// TestKeepsNothing is R2: a value that was read does not hang on the memory of its text.
func TestKeepsNothing(t *testing.T) {
	for _, p := range someParts() {
		memory := []byte(plainPrint(p))
		v, e, _ := Parse(unsafe.String(&memory[0], len(memory)))
		if e != api.OK {
			t.Fatalf("%s: error %d", brief(plainPrint(p)), e)
		}
		for i := range memory {
			memory[i] = '?'
		}
		if !sameParts(value.Tell(v), p) {
			t.Errorf("%s: it changed with its text", brief(plainPrint(p)))
		}
	}
}

// TestTwice is R2: the same is answered each time, and a value is the same once it is printed.
func TestTwice(t *testing.T) {
	for _, p := range someParts() {
		v := must(t, p)
		first, _ := Print(v)
		second, _ := Print(v)
		if first != second || !sameParts(value.Tell(v), p) {
			t.Errorf("%s: Print, twice", brief(first))
		}
		a, _, _ := Parse(first)
		b, _, _ := Parse(first)
		if !value.Same(a, b) {
			t.Errorf("%s: Parse, twice", brief(first))
		}
	}
	for range 3 {
		wantPlace(t, "(1 (x0))", 4)
		wantRead(t, "(1 (x))", row(num("1"), row(rawOf(api.Bytes, ""))))
	}
}
