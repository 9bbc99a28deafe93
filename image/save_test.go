package image_test

import (
	"encoding/hex"
	"fmt"
	"strconv"
	"strings"
	"testing"

	"dovetail/api"
	"dovetail/image"
	"dovetail/space"
)

// TestExamples is the chapter's table, row by row.
func TestExamples(t *testing.T) {
	b, e := image.Save(space.New())
	if want := summed("dovetail\x01" + strings.Repeat("\x00", 12)); e != api.OK || b != want || len(b) != 29 {
		t.Errorf("%x, %d; not %x", b, e, want)
	}
	if s, e := image.Load(b); e != api.OK || s == nil || len(s.Names()) != 0 {
		t.Errorf("%v, %d", s, e)
	}
	if b, e := image.Save(nil); b != "" || e != api.ErrNil {
		t.Errorf("%x, %d", b, e)
	}
	refuse(t, "", api.ErrImageForm)
	refuse(t, strings.Repeat("\x00", 29), api.ErrImageForm)
	refuse(t, b[:28]+string([]byte{^b[28]}), api.ErrImageSum)
	refuse(t, "dovetail\x02"+b[9:], api.ErrImageForm)
	for i := range 256 {
		refuse(t, b+string([]byte{byte(i)}), api.ErrImageSum)
	}
}

// TestSaveHex is P21.1, by bytes that are written out: each number, each piece, and the sum.
func TestSaveHex(t *testing.T) {
	s := space.New()
	must(t, s.Tables("0301;230;\n# nothing\n00E1;0;0061 0301\n", "0061;[.1000.0020.0002]\n"))
	must(t, s.Define("q", "limit 9 # remark\n field  a bool"))
	must(t, s.Define("p", "limit 64\nfield a int\nfield b bytes down most 8"))
	put(t, s, "p", "(1 x78)", "1")
	put(t, s, "p", "(-2 x)", "")
	want := "646f76657461696c01" +
		"1a000000" + hex.EncodeToString([]byte("00E1;0;0061 0301\n0301;230;")) +
		"16000000" + hex.EncodeToString([]byte("0061;[.1000.0020.0002]")) +
		"02000000" +
		"01000000" + "70" +
		"2f000000" + hex.EncodeToString([]byte("limit 64\nfield a int\nfield b bytes down most 8\n")) +
		"02000000" +
		"06000000" + "127ffd23fffe" + "00000000" +
		"07000000" + "1281012387fffe" + "01000000" + "31" +
		"01000000" + "71" +
		"15000000" + hex.EncodeToString([]byte("limit 9\nfield a bool\n")) +
		"00000000"
	b, e := image.Save(s)
	if got := hex.EncodeToString([]byte(b)); e != api.OK || len(b) < 8 || got[:2*len(b)-16] != want {
		t.Fatalf("%s, %d; not %s", got, e, want)
	}
	bytes, _ := hex.DecodeString(want)
	if b != summed(string(bytes)) {
		t.Errorf("the sum: %x", b[len(b)-8:])
	}
}

// TestSaveSum is P21.1: a new space's sum, written out.
func TestSaveSum(t *testing.T) {
	b, _ := image.Save(space.New())
	if got := hex.EncodeToString([]byte(b[21:])); got != "b20f2da686920584" {
		t.Error(got)
	}
}

// TestSaveWhole is DOC.md's ninth example: 105 bytes.
func TestSaveWhole(t *testing.T) {
	s := space.New()
	must(t, s.Define("p", pText))
	put(t, s, "p", "(1 x78)", "1")
	if b := save(t, s); len(b) != 105 {
		t.Errorf("%d bytes", len(b))
	}
}

// TestSaveKinds is P21.1: spaces of all sorts, held against the chapter's words.
func TestSaveKinds(t *testing.T) {
	s := space.New()
	save(t, s)
	must(t, s.Tables(someMarks, ""))
	save(t, s)
	must(t, s.Tables("", someEntries))
	save(t, s)
	must(t, s.Tables(someMarks, someEntries))
	save(t, s)
	for _, name := range []string{"b", "a-1", "z", "a", "ab", "a0123456789-bcde"} { // in no order
		must(t, s.Define(name, pText))
		save(t, s)
	}
	for _, tuple := range []string{"(300 x)", "(0 x00)", "(-1 xff)", "(0 x)", "(-300 x00ff)"} {
		put(t, s, "ab", tuple, "")
		put(t, s, "z", tuple, tuple)
		save(t, s)
	}
	must(t, s.Rekey("z", "b", []api.Source{{Field: 0}, {Field: 1}}))
	must(t, s.Evolve("b", "limit 65\nfield a int null-last\nfield c bytes down most 9\n"))
	put(t, s, "b", "(null x)", "\x00")
	save(t, s)
	if is, err := s.Delete("ab", part(t, "(0 x)")); !is || err != nil {
		t.Error(is, told(err))
	}
	save(t, s.Clone())
	save(t, made(t))
}

// TestSaveGreat is P21.1: numbers that want more than one of their four bytes.
func TestSaveGreat(t *testing.T) {
	s := space.New()
	must(t, s.Define("n", "limit 65536\nfield a int\nfield b bytes most 65536\n"))
	for _, n := range []int{0, 1, 255, 256, 257, 65535, 65536} {
		put(t, s, "n", "("+strconv.Itoa(n)+" x)", strings.Repeat("\x01", n))
		b := save(t, s)
		alike(t, s, load(t, b))
	}
	long := api.Part{Kind: api.Tuple, Items: []api.Part{{Kind: api.Int}, {Kind: api.Bytes, Raw: strings.Repeat("b", 65536-2-3)}}}
	must(t, s.Put("n", long, "v")) // a key of 65536 bytes
	alike(t, s, load(t, save(t, s)))
	for i := range 300 {
		must(t, s.Define("n"+strconv.Itoa(i), "limit 9\nfield a bool\n"))
	}
	alike(t, s, load(t, save(t, s)))
}

// longSchema is a schema's text of so many bytes, as it is printed: great numbers within tuples.
func longSchema(size int) string {
	text := "limit 65536\nfield t tuple\n  field t tuple\n    field t tuple\n"
	ends := "    end\n  end\nend\n"
	line := func(n, low, high int) string {
		return "      field n" + strconv.Itoa(n) + " int from -" + strings.Repeat("1", low) + " to " + strings.Repeat("1", high) + "\n"
	}
	n, left := 0, size-len(text)-len(ends)
	for ; left > 1250; n++ {
		text += line(n, 590, 590)
		left = size - len(text) - len(ends)
	}
	left -= len(line(n, 0, 0))
	return text + line(n, left/2, left-left/2) + ends
}

// TestSaveLong is P21.1 and P21.3: texts as long as they may be.
func TestSaveLong(t *testing.T) {
	text := longSchema(65536)
	s := space.New()
	must(t, s.Define("p", text))
	if b := save(t, s); len(text) != 65536 || len(b) != 9+12+4+1+4+65536+4+8 {
		t.Errorf("%d, %d bytes", len(text), len(b))
	}
	alike(t, s, load(t, save(t, s)))
	refuse(t, framed(bare(holding("p", longSchema(65537)))), api.ErrImageForm)

	var marks, entries []string
	for i := range 3855 { // 17 bytes each, with the feed; 2 of them 18
		marks = append(marks, fmt.Sprintf("%04X;%s;0041 0042", 0x1000+i, map[bool]string{true: "10", false: "0"}[i < 2]))
	}
	for i := range 2849 { // 23 bytes each; 10 of them 24
		entries = append(entries, fmt.Sprintf("%04X;[.1000.0020.0002]", 0x10000-2839+i))
	}
	must(t, s.Tables(strings.Join(marks, "\n"), strings.Join(entries, "\n")))
	if b := save(t, s); len(b) != 9+4+65536+4+65536+4+4+1+4+65536+4+8 {
		t.Errorf("%d bytes", len(b))
	}
	alike(t, s, load(t, save(t, s)))
}

// TestSaveMany is P21.1 and P21.3: more rows than two bytes of a number tell.
func TestSaveMany(t *testing.T) {
	s := space.New()
	must(t, s.Define("n", "limit 9\nfield a int\n"))
	for i := range 66000 {
		must(t, s.Import("n", string([]byte{0x12, 0x83, 1 + byte(i>>16), byte(i >> 8), byte(i)}), ""))
	}
	b, e := image.Save(s)
	x, f := image.Load(b)
	if e != api.OK || f != api.OK || b != plainSave(t, s) {
		t.Fatalf("%d, %d", e, f)
	}
	if n, err := x.Len("n"); n != 66000 || err != nil {
		t.Errorf("%d, %s", n, told(err))
	}
	if again, _ := image.Save(x); again != b {
		t.Error("saved otherwise")
	}
}

// TestSaveChangesNothing is P21.3: before and after it a space tells the same, and saves the same.
func TestSaveChangesNothing(t *testing.T) {
	s := made(t)
	before := tellings(s)
	b := save(t, s)
	after := tellings(s)
	if brief(before) != brief(after) || save(t, s) != b {
		t.Errorf("%s; %s", brief(before), brief(after))
	}
	put(t, s, "p", "(5 x)", "five")
	if c := save(t, s); c == b || len(c) != len(b)+4+len("\x12\x81\x05\x23\xff\xfe")+4+len("five") {
		t.Errorf("%s", brief(c))
	}
}
