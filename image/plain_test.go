package image_test

import (
	"encoding/binary"
	"fmt"
	"hash/fnv"
	"reflect"
	"slices"
	"strconv"
	"strings"
	"testing"

	"dovetail/api"
	"dovetail/image"
	"dovetail/lit"
	"dovetail/schema"
	"dovetail/space"
	"dovetail/value"
)

const (
	pText = "limit 64\nfield a int\nfield b bytes down most 8\n"
	qText = "limit 64\nfield b bytes most 8\nfield a int\n"
	wText = "limit 64\nfield t text strength 2\n"

	someMarks   = "00E1;0;0061 0301\n0301;230;"
	someEntries = "0041;[.1000.0020.0008]\n0061;[.1000.0020.0002]\n0062;[.1001.0020.0002]\n0301;[.0000.0024.0002]"
)

// number, piece and summed are the chapter's words, by the library's means.
func number(n int) string { return string(binary.LittleEndian.AppendUint32(nil, uint32(n))) }

func piece(s string) string { return number(len(s)) + s }

// summed are bytes with their sum behind them.
func summed(b string) string {
	h := fnv.New64a()
	h.Write([]byte(b))
	return string(binary.LittleEndian.AppendUint64([]byte(b), h.Sum64()))
}

// framed is what stands between an image's beginning and its sum, with these.
func framed(body string) string { return summed("dovetail\x01" + body) }

// bare is the body of a space without tables: so many schemas, one behind the other.
func bare(schemas ...string) string {
	return piece("") + piece("") + number(len(schemas)) + strings.Join(schemas, "")
}

// holding is a schema with its rows, each a key and what is kept.
func holding(name, text string, rows ...[2]string) string {
	l := []string{piece(name), piece(text), number(len(rows))}
	for _, r := range rows {
		l = append(l, piece(r[0]), piece(r[1]))
	}
	return strings.Join(l, "")
}

// plainSave is a space's image by the chapter's words.
func plainSave(t testing.TB, s *space.Space) string {
	t.Helper()
	marks, entries := s.Texts()
	names := s.Names()
	slices.Sort(names)
	body := piece(marks) + piece(entries) + number(len(names))
	for _, name := range names {
		x, err := s.Schema(name)
		must(t, err)
		text, err := schema.Print(x)
		must(t, err)
		pairs, err := s.Pairs(name)
		must(t, err)
		slices.SortFunc(pairs, func(a, b api.Pair) int { return strings.Compare(a.Key, b.Key) })
		var rows [][2]string
		for _, p := range pairs {
			rows = append(rows, [2]string{p.Key, p.Value})
		}
		body += holding(name, text, rows...)
	}
	return framed(body)
}

// save is a space's image, which must be the plain one.
func save(t testing.TB, s *space.Space) string {
	t.Helper()
	b, e := image.Save(s)
	if want := plainSave(t, s); e != api.OK || b != want {
		t.Fatalf("%s, %d; not %s", brief(b), e, brief(want))
	}
	return b
}

// load is the space of an image, which must tell what stands in it.
func load(t testing.TB, b string) *space.Space {
	t.Helper()
	s, e := image.Load(b)
	if e != api.OK || s == nil {
		t.Fatalf("%s: %v, %d", brief(b), s, e)
	}
	if again := save(t, s); again != b {
		t.Fatalf("%s, saved %s", brief(b), brief(again))
	}
	return s
}

// refuse: these bytes are refused so.
func refuse(t testing.TB, b string, want api.Errno) {
	t.Helper()
	if s, e := image.Load(b); s != nil || e != want {
		t.Errorf("%s: %v, %d; not %d", brief(b), s, e, want)
	}
}

// alike: two spaces tell the same of all that they have.
func alike(t testing.TB, a, b *space.Space) {
	t.Helper()
	if x, y := tellings(a), tellings(b); !slices.Equal(x, y) {
		t.Fatalf("%s; %s", brief(x), brief(y))
	}
}

// tellings are all that a space tells of itself.
func tellings(s *space.Space) []string {
	marks, entries := s.Texts()
	l := []string{marks, entries}
	for _, name := range s.Names() {
		x, err := s.Schema(name)
		n, bad := s.Len(name)
		pairs, worse := s.Pairs(name)
		l = append(l, name, fmt.Sprintf("%+v %s", x, told(err)), strconv.Itoa(n)+told(bad), fmt.Sprintf("%q %s", pairs, told(worse)))
		for _, back := range []bool{false, true} {
			rows, err := s.Scan(name, api.Query{Back: back})
			l = append(l, fmt.Sprintf("%+v %s", rows, told(err)))
			for _, r := range rows {
				kept, is, err := s.Get(name, r.Part)
				l = append(l, fmt.Sprintf("%q %v %s", kept, is, told(err)))
			}
		}
	}
	return l
}

// must: what is done to prepare a test is not refused.
func must(t testing.TB, err error) {
	t.Helper()
	if err != nil {
		t.Fatal(told(err))
	}
}

// part is a value that is written as package lit has it.
func part(t testing.TB, text string) api.Part {
	t.Helper()
	v, e, at := lit.Parse(text)
	if e != api.OK {
		t.Fatalf("%s: error %d at %d", text, e, at)
	}
	return value.Tell(v)
}

func put(t testing.TB, s *space.Space, name, tuple, kept string) {
	t.Helper()
	must(t, s.Put(name, part(t, tuple), kept))
}

// made has tables, a schema without rows, one with rows, one with a text, and something kept that has no bytes.
func made(t testing.TB) *space.Space {
	t.Helper()
	s := space.New()
	must(t, s.Tables(someMarks, someEntries))
	must(t, s.Define("w", wText))
	must(t, s.Define("q", qText))
	must(t, s.Define("p", pText))
	put(t, s, "p", "(2 x)", "")
	put(t, s, "p", "(1 x78)", "one")
	put(t, s, "p", "(-1 x00ff)", "\x00\xff")
	put(t, s, "w", `("b")`, "b")
	put(t, s, "w", `("\xc3\xa1")`, "")
	put(t, s, "w", `("A")`, "A")
	return s
}

// sameError tells whether two errors are of one type and have the same; a path without places may be nil or not.
func sameError(a, b error) bool {
	f, isF := a.(*api.Fault)
	g, isG := b.(*api.Fault)
	if isF && isG && f != nil && g != nil {
		return f.Code == g.Code && f.At == g.At && slices.Equal(f.Path, g.Path) && sameError(f.Why, g.Why)
	}
	return reflect.DeepEqual(a, b)
}

// told is an error in few words.
func told(err error) string {
	if f, is := err.(*api.Fault); is && f != nil {
		return fmt.Sprintf("error %d at %d path %v why (%s)", f.Code, f.At, f.Path, told(f.Why))
	}
	return fmt.Sprintf("%T %v", err, err)
}

// brief is what a test tells of something: as much as fits a few lines.
func brief(x any) string {
	s := fmt.Sprintf("%+v", x)
	return strconv.Quote(s[:min(len(s), 300)])
}
