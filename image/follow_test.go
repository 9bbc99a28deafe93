package image_test

import (
	"fmt"
	"math/rand"
	"slices"
	"strconv"
	"strings"
	"testing"

	"dovetail/api"
	"dovetail/image"
	"dovetail/nat"
	"dovetail/space"
)

// some is one of these.
func some[T any](r *rand.Rand, l ...T) T { return l[r.Intn(len(l))] }

// anyItem is some value of a kind; now and then null.
func anyItem(r *rand.Rand, k api.Kind) api.Part {
	if r.Intn(8) == 0 {
		return api.Part{}
	}
	switch k {
	case api.Bool:
		return api.Part{Kind: k, Yes: r.Intn(2) == 0}
	case api.Int:
		return api.Part{Kind: k, Num: nat.Of(some(r, 0, 1, -1, 2, 255, 256, -256, 65536))}
	case api.ID:
		return api.Part{Kind: k, Raw: strings.Repeat(some(r, "\x00", "a", "\xff"), 16)}
	case api.Tuple:
		return api.Part{Kind: k, Items: []api.Part{anyItem(r, api.Name), anyItem(r, api.Bool)}}
	case api.Text:
		return api.Part{Kind: k, Raw: some(r, "", "a", "A", "b", "\u00e1", "a\u0301", "ab", "z")}
	}
	return api.Part{Kind: k, Raw: some(r, "", "a", "b", "ab", "\x00", "a\x00", "\x01")}
}

// anyShape is a schema's text, and its fields' kinds.
func anyShape(r *rand.Rand) (string, []api.Kind) {
	text := "limit " + some(r, "64", "64", "20", "65536") + "\n"
	var kinds []api.Kind
	for i := range 1 + r.Intn(3) {
		k := some(r, api.Bool, api.Int, api.Bytes, api.ID, api.Name, api.Text, api.Tuple)
		kinds = append(kinds, k)
		line := "field f" + strconv.Itoa(i) + []string{"", " bool", " int", " bytes", " id", " name", " text", " tuple"}[k]
		line += some(r, "", " down") + some(r, " null-first", " null-last", "")
		switch k {
		case api.Bytes, api.Name:
			line += " most " + some(r, "1", "8")
		case api.Text:
			line += " strength " + some(r, "1", "2 back", "3", "4 shifted")
		case api.Tuple:
			line += "\n  field n name null-last most 2\n  field x bool down null-first\nend"
		case api.Int:
			line += some(r, "", " from -256 to 255")
		}
		text += line + "\n"
	}
	return text, kinds
}

// calls are rows of calls to be done to any space, the same ones to each: what they answer, as text.
type calls struct {
	r     *rand.Rand
	kinds map[string][]api.Kind // of each name, the schema that it had last
}

func (c calls) tuple(name string) api.Part {
	p := api.Part{Kind: api.Tuple}
	for _, k := range c.kinds[name] {
		p.Items = append(p.Items, anyItem(c.r, k))
	}
	return p
}

// next is some call.
func (c calls) next(count int) func(*space.Space) string {
	r := c.r
	name, to := some(r, "p", "q", "r", "s-1"), some(r, "p", "q", "r", "s-1")
	kept := some(r, "", strconv.Itoa(count), strings.Repeat("k", count))
	switch r.Intn(16) {
	case 0:
		marks, entries := some(r, someMarks, someMarks, "", "x"), some(r, someEntries, "# remark\n"+someEntries, "", "0061;[.0001.0001.0001]")
		return func(s *space.Space) string { return told(s.Tables(marks, entries)) }
	case 1, 2:
		text, kinds := anyShape(r)
		if c.kinds[name] == nil {
			c.kinds[name] = kinds
		}
		return func(s *space.Space) string { return told(s.Define(name, text)) }
	case 3:
		text, _ := anyShape(r)
		return func(s *space.Space) string { return told(s.Evolve(name, text)) }
	case 4:
		l := []api.Source{{Field: r.Intn(2)}, {Field: -1, Part: anyItem(r, api.Int)}}[:1+r.Intn(2)]
		return func(s *space.Space) string { return told(s.Rekey(name, to, l)) }
	case 5:
		p := c.tuple(name)
		return func(s *space.Space) string { is, err := s.Delete(name, p); return fmt.Sprint(is, told(err)) }
	case 6:
		p := c.tuple(name)
		return func(s *space.Space) string {
			v, is, err := s.Get(name, p)
			return fmt.Sprintf("%q %v %s", v, is, told(err))
		}
	case 7:
		q := api.Query{Prefix: c.tuple(name), Back: r.Intn(2) == 0, Limit: r.Intn(3)}
		q.Prefix.Items = q.Prefix.Items[:r.Intn(len(q.Prefix.Items)+1)]
		return func(s *space.Space) string { l, err := s.Scan(name, q); return fmt.Sprintf("%+v %s", l, told(err)) }
	case 8:
		key := some(r, "\x11\x00", "\x11\x01", "\x12\x80", "\x02", "\x7d", "\x12\x81\x05", "")
		return func(s *space.Space) string { return told(s.Import(name, key, kept)) }
	}
	p := c.tuple(name)
	return func(s *space.Space) string { return told(s.Put(name, p, kept)) }
}

func newCalls(seed int64) calls {
	return calls{rand.New(rand.NewSource(seed)), map[string][]api.Kind{}}
}

// TestThereAndBack is P21.3: of a space that has gone any way, Load of Save tells all that it tells, and answers from then on as it does; Save of Load is the bytes.
func TestThereAndBack(t *testing.T) {
	rows, answers := 0, map[string]int{}
	for seed := range int64(60) {
		c := newCalls(2130 + seed)
		s := space.New()
		must(t, s.Tables(someMarks, someEntries))
		for i := range 60 {
			c.next(i)(s)
		}
		b := save(t, s)
		x := load(t, b)
		alike(t, s, x)
		for i := range 60 {
			call := c.next(60 + i)
			one, two := call(s), call(x)
			if one != two {
				t.Fatalf("%s; %s", brief(one), brief(two))
			}
			answers[one[:min(len(one), 9)]]++
			if i%10 == 0 {
				alike(t, s, x)
				x = load(t, save(t, x))
			}
		}
		alike(t, s, x)
		for _, name := range s.Names() {
			n, _ := s.Len(name)
			rows += n
		}
	}
	if rows < 200 || len(answers) < 12 {
		t.Errorf("%d rows, %d answers", rows, len(answers))
	}
}

// TestTablesBack is P21.3: what is loaded weighs texts as the space did, and keeps its tables as long as it has rows of texts.
func TestTablesBack(t *testing.T) {
	x := load(t, save(t, made(t)))
	put(t, x, "w", `("a\xcc\x81")`, "")
	rows, err := x.Scan("w", api.Query{})
	var spelt []string
	for _, r := range rows {
		spelt = append(spelt, r.Part.Items[0].Raw)
	}
	if want := []string{"A", "a\u0301", "\u00e1", "b"}; err != nil || !slices.Equal(spelt, want) {
		t.Errorf("%q, %s", spelt, told(err))
	}
	if err := x.Tables("", someEntries); !sameError(err, &api.Fault{Code: api.ErrSpaceKeep}) {
		t.Error(told(err))
	}
	must(t, x.Tables(someMarks+"\n", "\n"+someEntries))
	if err := x.Define("p", pText); !sameError(err, &api.Fault{Code: api.ErrSpaceTwice}) {
		t.Error(told(err))
	}
	if err := x.Evolve("p", qText); !sameError(err, &api.Fault{Code: api.ErrSpaceKeep}) {
		t.Error(told(err))
	}
	must(t, x.Evolve("q", pText)) // without rows
	must(t, x.Rekey("p", "q", []api.Source{{Field: 0}, {Field: 1}}))
	if n, err := x.Len("q"); n != 3 || err != nil {
		t.Errorf("%d, %s", n, told(err))
	}
}

// TestApart is P21.3: a space, one that is loaded of its image, and another one know nothing of one another; what is done to one of them no other one shows.
func TestApart(t *testing.T) {
	changes := []func(*space.Space) error{
		func(s *space.Space) error { return s.Put("p", part(t, "(1 x78)"), "another") },
		func(s *space.Space) error { return s.Put("q", part(t, "(x 7)"), "new") },
		func(s *space.Space) error { return s.Import("p", zeroKey, "") },
		func(s *space.Space) error { _, err := s.Delete("p", part(t, "(2 x)")); return err },
		func(s *space.Space) error { return s.Define("new", qText) },
		func(s *space.Space) error {
			return s.Evolve("p", "limit 65\nfield c int null-first\nfield b bytes down most 9\n")
		},
		func(s *space.Space) error { return s.Rekey("p", "q", []api.Source{{Field: 1}, {Field: 0}}) },
		func(s *space.Space) error { _, err := s.Delete("w", part(t, `("b")`)); return err },
	}
	for i, change := range changes {
		s := made(t)
		b := save(t, s)
		family := []*space.Space{s, load(t, b), load(t, b)}
		if family[1] == family[2] || family[0] == family[1] {
			t.Fatal("one space")
		}
		for j, x := range family {
			must(t, change(x))
			for k, y := range family {
				if is, changed := save(t, y), k <= j; (is != b) != changed {
					t.Errorf("change %d of %d: %d", i, j, k)
				}
			}
		}
		alike(t, family[0], family[1])
	}
}

// TestTablesApart is the same of the tables.
func TestTablesApart(t *testing.T) {
	s := space.New()
	must(t, s.Tables(someMarks, someEntries))
	b := save(t, s)
	x := load(t, b)
	must(t, x.Tables("", "0061;[.0001.0001.0001]"))
	if save(t, s) != b || save(t, x) == b {
		t.Error("changed")
	}
	y := load(t, b)
	must(t, s.Tables("", ""))
	if save(t, y) != b {
		t.Error("changed")
	}
}

// TestTurned is P21.4: an image with one byte that is another one is refused, whichever it is.
func TestTurned(t *testing.T) {
	for _, b := range []string{save(t, space.New()), save(t, made(t))} {
		for at := range len(b) {
			for n := range 256 {
				if byte(n) == b[at] {
					continue
				}
				want := api.ErrImageSum
				if at < 9 {
					want = api.ErrImageForm
				}
				refuse(t, turned(b, at, byte(n)), want)
			}
		}
	}
}

// TestBeginnings is P21.4: each beginning of an image is refused; with a sum of its own, too.
func TestBeginnings(t *testing.T) {
	for _, b := range []string{save(t, space.New()), save(t, made(t))} {
		for n := range len(b) {
			want := api.ErrImageSum
			if n < 29 {
				want = api.ErrImageForm
			}
			refuse(t, b[:n], want)
			if n != len(b)-8 {
				refuse(t, summed(b[:n]), api.ErrImageForm)
			}
		}
	}
}

// TestBehind is P21.4: all that goes on behind an image is refused; with a sum of its own, too.
func TestBehind(t *testing.T) {
	one := save(t, made(t))
	for _, b := range []string{save(t, space.New()), one} {
		for _, more := range []string{"\x00", "\xff", "\n", "\x00\x00\x00\x00", strings.Repeat("\x00", 8), b[len(b)-8:], b, one, strings.Repeat("x", 100)} {
			refuse(t, b+more, api.ErrImageSum)
			refuse(t, b[:len(b)-8]+more+b[len(b)-8:], api.ErrImageSum)
			refuse(t, summed(b[:len(b)-8]+more), api.ErrImageForm)
			refuse(t, summed(b+more), api.ErrImageForm)
		}
		refuse(t, summed(b), api.ErrImageForm)
	}
}

// TestMended is P21.2 and P21.3: of images with bytes that are others, and with a right sum, Load reads just those that are what Save tells of what was read.
func TestMended(t *testing.T) {
	b := save(t, made(t))
	end := len(b) - 8
	read, refused := 0, 0
	try := func(x string) {
		s, e := image.Load(x)
		switch {
		case e == api.OK && s != nil:
			read++
			if save(t, s) != x {
				t.Fatalf("%s", brief(x))
			}
		case e == api.ErrImageForm && s == nil:
			refused++
		default:
			t.Fatalf("%s: %v, %d", brief(x), s, e)
		}
	}
	r := rand.New(rand.NewSource(214))
	for at := 9; at < end; at++ {
		for _, n := range []byte{0, 1, 0xff, ' ', '\n', b[at] ^ 1, b[at] + 1, b[at] - 1, b[at] ^ 0x80, byte(r.Intn(256))} {
			try(summed(turned(b[:end], at, n)))
		}
		try(summed(b[:at] + b[at+1:end]))                                    // without it
		try(summed(b[:at] + some(r, "\x00", "a", "\xff", "\n") + b[at:end])) // with one more
		from, to := 9+r.Intn(end-9), 9+r.Intn(end-9)
		try(summed(b[:min(from, to)] + b[max(from, to):end])) // without a piece
	}
	if read < 30 || refused < 3000 {
		t.Errorf("%d read, %d refused", read, refused)
	}
}
