package span_test

import (
	"math/rand"
	"reflect"
	"strings"
	"testing"

	"dovetail/api"
)

// TestStartsExamples is the chapter's table on Starts.
func TestStartsExamples(t *testing.T) {
	x := empty(t)
	wantSpan(t, x, example(), starts(tuplePart(intPart(1)), "a\x00"), fromTo("\x12\x81\x01\x15a\x00\xff", "\x12\x81\x01\x15a\x01"))
	wantBad(t, x, example(), starts(tuplePart(), "a"), wrongIn(api.ErrSpanKind, 0))
}

// TestStartsWhole is DOC.md's example 5.
func TestStartsWhole(t *testing.T) {
	x := empty(t)
	s := schemaOf(64, is(api.Int), most(8, down(is(api.Bytes))))
	wantSpan(t, x, s, starts(tuplePart(intPart(1)), "a"), fromTo("\x12\x81\x01\x23\x9e", "\x12\x81\x01\x23\x9f"))
	wantBad(t, x, s, starts(tuplePart(), "a"), wrongIn(api.ErrSpanKind, 0))
}

// TestStartsBytes is P16.3: no bytes, bytes with 00 and ff in them, bytes that end within a character; on both kinds, which rise and fall, with and without nulls.
func TestStartsBytes(t *testing.T) {
	x := odd(t)
	for _, c := range []struct {
		start string
		up    [2]string // behind the tag
		down  [2]string
	}{
		{"a", [2]string{"a", "b"}, [2]string{"\x9e", "\x9f"}},
		{"ab", [2]string{"ab", "ac"}, [2]string{"\x9e\x9d", "\x9e\x9e"}},
		{"\x00", [2]string{"\x00\xff", "\x01"}, [2]string{"\xff\x00", "\xff\x01"}},
		{"\x00\x00", [2]string{"\x00\xff\x00\xff", "\x00\xff\x01"}, [2]string{"\xff\x00\xff\x00", "\xff\x00\xff\x01"}},
		{"\x00\x01", [2]string{"\x00\xff\x01", "\x00\xff\x02"}, [2]string{"\xff\x00\xfe", "\xff\x00\xff"}},
		{"\x01", [2]string{"\x01", "\x02"}, [2]string{"\xfe", "\xff"}},
		{"a\x00b", [2]string{"a\x00\xffb", "a\x00\xffc"}, [2]string{"\x9e\xff\x00\x9d", "\x9e\xff\x00\x9e"}},
		{"a\xff", [2]string{"a\xff", "b"}, [2]string{"\x9e\x00", "\x9e\x01"}},
		{"\xff\xff\x00", [2]string{"\xff\xff\x00\xff", "\xff\xff\x01"}, [2]string{"\x00\x00\xff\x00", "\x00\x00\xff\x01"}},
		{"\x00\xff", [2]string{"\x00\xff\xff", "\x01"}, [2]string{"\xff\x00\x00", "\xff\x00\x01"}},
		{"a\xc3", [2]string{"a\xc3", "a\xc4"}, [2]string{"\x9e\x3c", "\x9e\x3d"}},
		{"\xe2\x82", [2]string{"\xe2\x82", "\xe2\x83"}, [2]string{"\x1d\x7d", "\x1d\x7e"}},
	} {
		for _, n := range []api.Nulls{api.NeverNull, api.NullFirst, api.NullLast} {
			for _, most0 := range []int{0, 1, 65536} { // more bytes than the field has are no fault
				for k, tag := range map[api.Kind][2]string{api.Bytes: {"\x13", "\x23"}, api.Name: {"\x15", "\x25"}} {
					f := most(most0, nulls(n, is(k)))
					wantSpan(t, x, schemaOf(9, f), starts(tuplePart(), c.start), fromTo(tag[0]+c.up[0], tag[0]+c.up[1]))
					wantSpan(t, x, schemaOf(9, down(f)), starts(tuplePart(), c.start), fromTo(tag[1]+c.down[0], tag[1]+c.down[1]))
					s := schemaOf(9, is(api.Bool), down(f), is(api.Bool))
					wantSpan(t, x, s, starts(tuplePart(boolPart(true)), c.start), fromTo("\x11\x01"+tag[1]+c.down[0], "\x11\x01"+tag[1]+c.down[1]))
				}
			}
		}
	}
}

// TestStartsHigh is P16.3 where all that stands behind the tag is FF, so that what is next is the next tag; and no bytes: all that is not null.
func TestStartsHigh(t *testing.T) {
	x := odd(t)
	for _, n := range []api.Nulls{api.NeverNull, api.NullFirst, api.NullLast} {
		s := schemaOf(9, nulls(n, is(api.Bytes)), nulls(n, down(is(api.Name))))
		wantSpan(t, x, s, starts(tuplePart(), ""), fromTo("\x13", "\x14"))
		wantSpan(t, x, s, starts(tuplePart(), "\xff"), fromTo("\x13\xff", "\x14"))
		wantSpan(t, x, s, starts(tuplePart(), "\xff\xff\xff"), fromTo("\x13\xff\xff\xff", "\x14"))
		ahead := tuplePart(bytesPart(""))
		wantSpan(t, x, s, starts(ahead, ""), fromTo("\x13\x00\x01\x25", "\x13\x00\x01\x26"))
		wantSpan(t, x, s, starts(ahead, "\xff\xff"), fromTo("\x13\x00\x01\x25\x00\x00", "\x13\x00\x01\x25\x00\x01"))
	}
}

// TestStartsLong is P16.3: as many bytes as one likes.
func TestStartsLong(t *testing.T) {
	x := odd(t)
	s := schemaOf(1, most(0, is(api.Name)), down(is(api.Bytes)))
	for _, n := range []int{65535, 65536, 65537, 1 << 20} {
		some := strings.Repeat("a", n-1)
		wantSpan(t, x, s, starts(tuplePart(), some+"a"), fromTo("\x15"+some+"a", "\x15"+some+"b"))
		noughts := strings.Repeat("\x00\xff", n-1)
		wantSpan(t, x, s, starts(tuplePart(), strings.Repeat("\x00", n)), fromTo("\x15"+noughts+"\x00\xff", "\x15"+noughts+"\x01"))
		wantSpan(t, x, s, starts(tuplePart(), strings.Repeat("\xff", n)), fromTo("\x15"+strings.Repeat("\xff", n), "\x16"))
		turned := strings.Repeat("\x9e", n-1)
		wantSpan(t, x, s, starts(tuplePart(namePart("")), some+"a"), fromTo("\x15\x00\x01\x23"+turned+"\x9e", "\x15\x00\x01\x23"+turned+"\x9f"))
	}
}

// TestStartsKind is P16.3: each kind of the next field that has no beginnings, with its place; no next field is told ahead of that, what is wrong in the beginning ahead of both.
func TestStartsKind(t *testing.T) {
	x := odd(t)
	for k := api.Bool; k <= api.Tuple; k++ {
		for _, f := range []api.Field{is(k), down(is(k)), nulls(api.NullFirst, is(k)), nulls(api.NullLast, down(is(k)))} {
			for _, start := range []string{"", "a", "\x00", "\xff", strings.Repeat("a", 70000)} {
				first, later := starts(tuplePart(), start), starts(tuplePart(intPart(0), namePart("")), start)
				s := schemaOf(64, is(api.Int), is(api.Name), f)
				if k == api.Bytes || k == api.Name {
					check(t, x, schemaOf(64, f), first)
					check(t, x, s, later)
					continue
				}
				wantBad(t, x, schemaOf(64, f), first, wrongIn(api.ErrSpanKind, 0))
				wantBad(t, x, s, later, wrongIn(api.ErrSpanKind, 2))
				wantBad(t, x, s, starts(tuplePart(intPart(0), namePart("\xff")), start), &api.Fault{Code: api.ErrFitUtf, Path: []int{1}, Why: api.ErrUtfForm})
			}
			wantBad(t, x, schemaOf(64, f), starts(tuplePart(samples()[k][0]), "a"), wrong(api.ErrSpanDeep))
		}
	}
}

// TestStartsAny is P16.3: schemas of every shape, held against the words.
func TestStartsAny(t *testing.T) {
	x := odd(t)
	r := rand.New(rand.NewSource(163))
	told := 0
	for range 6000 {
		s := anySchema(r, 1+r.Intn(3))
		if _, is := check(t, x, s, starts(tuplePart(anyBeginning(r, s)...), anyBytes(r, 5))); is {
			told++
		}
	}
	if told < 600 {
		t.Errorf("%d spans only", told)
	}
}

// anyBytes are up to so many of the bytes that count.
func anyBytes(r *rand.Rand, most int) string {
	b := make([]byte, r.Intn(most+1))
	for i := range b {
		b[i] = []byte{0x00, 0x01, 0x02, 'a', 'b', 0xc3, 0xcc, 0xfe, 0xff}[r.Intn(9)]
	}
	return string(b)
}

// TestStartsHandedIn is R2: the schema's lists are not written into, nor their spare room.
func TestStartsHandedIn(t *testing.T) {
	x := odd(t)
	s, p, _ := everyKind()
	again, _, _ := everyKind()
	s.Fields = roomy(s.Fields)
	for range 2 {
		wantSpan(t, x, s, starts(tuplePart(p.Items[:2]...), "\x00"), fromTo("\x11\x00\x22\x7d\xfe\xff\x13\x00\xff", "\x11\x00\x22\x7d\xfe\xff\x13\x01"))
	}
	if !reflect.DeepEqual(s, again) {
		t.Error("what was handed in is changed")
	}
	wantLeft(t, s.Fields)
}

// FuzzStarts is P16.3, of any bytes.
func FuzzStarts(f *testing.F) {
	x := odd(f)
	for seed := range int64(20) {
		f.Add(seed, []byte(anyBytes(rand.New(rand.NewSource(seed)), 6)))
	}
	f.Fuzz(func(t *testing.T, seed int64, b []byte) {
		r := rand.New(rand.NewSource(seed))
		s := anySchema(r, 2)
		n := r.Intn(len(s.Fields))
		s.Fields[n] = named(s.Fields[n].Name, nulls(s.Fields[n].Nulls, is([]api.Kind{api.Bytes, api.Name}[r.Intn(2)])))
		s.Fields[n].Down = r.Intn(2) == 0
		if _, is := check(t, x, s, starts(tuplePart(anyTuple(r, s).Items[:n]...), string(b))); !is {
			t.Fatal("no span")
		}
	})
}
