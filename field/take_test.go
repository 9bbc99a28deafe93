package field_test

import (
	"math/rand"
	"reflect"
	"slices"
	"strconv"
	"strings"
	"testing"

	"dovetail/api"
	"dovetail/field"
	"dovetail/schema"
	"dovetail/value"
	"dovetail/weigh"
)

// TestTakeExamples is the chapter's second table.
func TestTakeExamples(t *testing.T) {
	x := empty(t)
	for _, c := range []struct {
		f    api.Field
		b    string
		code api.Errno
		at   int
		why  error
		path []int
	}{
		{is(api.Bool), "", api.ErrFieldShort, 0, nil, nil},
		{is(api.Bool), "\x11", api.ErrFieldShort, 1, nil, nil},
		{is(api.Bool), "\x11\x02", api.ErrFieldShape, 1, nil, nil},
		{is(api.Bool), "\x21\x00", api.ErrFieldTag, 0, nil, nil},
		{is(api.Bool), "\x02", api.ErrFieldTag, 0, nil, nil},
		{is(api.Int), "\x12\x81\x00", api.ErrFieldShape, 1, api.ErrNatForm, nil},
		{is(api.Int), "\x12\x82\x01", api.ErrFieldShort, 3, nil, nil},
		{is(api.Int), "\x12\xff\x01\x05", api.ErrFieldShape, 1, api.ErrNatForm, nil},
		{is(api.Int), "\x12\x00", api.ErrFieldShape, 1, api.ErrNatForm, nil},
		{is(api.Int), "\x12\x01", api.ErrFieldShort, 2, nil, nil},
		{most(1, is(api.Bytes)), "\x13\x61\x00", api.ErrFieldShort, 3, nil, nil},
		{most(1, is(api.Bytes)), "\x13\x61\x00\x02", api.ErrFieldEscape, 2, api.ErrOrdForm, nil},
		{most(1, is(api.Bytes)), "\x13\x61\x62\x00\x01", api.ErrFitLong, 1, nil, nil},
		{tupleOf(is(api.Bool), is(api.Bool)), "\x17\x11\x01\x11", api.ErrFieldShort, 4, nil, []int{1}},
		{tupleOf(is(api.Bool), is(api.Bool)), "\x17\x11\x01\x11\x00\x02", api.ErrFieldShape, 5, nil, nil},
		{tupleOf(is(api.Bool), is(api.Bool)), "\x17\x11\x01\x12", api.ErrFieldTag, 3, nil, []int{1}},
	} {
		wantBad(t, x, c.f, c.b, c.code, c.at, c.why, c.path...)
	}
	wantTake(t, x, most(1, is(api.Bytes)), "\x13\x61\x00\x01\x77", bytesPart("a"), 4)
}

// badPlaced: bytes of a field that are wrong are so wherever the field stands, turned as often as tuples fall about it: at a place further on, with the path.
func badPlaced(t *testing.T, x *weigh.Tables, f api.Field, b string, code api.Errno, at int, why error) {
	t.Helper()
	for _, in := range places() {
		for _, tail := range []string{in.tail, in.tail + "\x00\xff\x01", ""} {
			if code == api.ErrFieldShort {
				tail = "" // which would be taken for more of it
			}
			wantBad(t, x, in.f(f), in.ahead+string(turnedBy([]byte(b), in.turns))+tail, code, at+len(in.ahead), why, in.path...)
		}
	}
}

// TestTakeTags is P14.2: every first byte, of each kind of field: that of the kind, and that of the null which the field lets be, and no others.
func TestTakeTags(t *testing.T) {
	x := odd(t)
	tags := map[api.Kind]int{api.Bool: 0x11, api.Int: 0x12, api.Bytes: 0x13, api.ID: 0x14, api.Name: 0x15, api.Text: 0x16, api.Tuple: 0x17}
	for k, rises := range tags {
		for _, n := range []api.Nulls{api.NeverNull, api.NullFirst, api.NullLast} {
			for _, falls := range []bool{false, true} {
				f, own := nulls(n, is(k)), rises
				if f.Down = falls; falls {
					own = rises + 0x10
				}
				for c := range 0x100 {
					b := string([]byte{byte(c)})
					switch {
					case c == own:
						checkPlacedShort(t, x, f, b)
					case c == 0x02 && n == api.NullFirst, c == 0x7d && n == api.NullLast:
						for _, in := range places() {
							all := in.ahead + string(turnedBy([]byte(b), in.turns)) + in.tail
							wantTake(t, x, in.f(f), all+"\x00\xff", in.p(null()), len(all))
						}
					default:
						badPlaced(t, x, f, b, api.ErrFieldTag, 0, nil)
					}
				}
			}
		}
	}
}

// checkPlacedShort: these bytes are the beginning of something that is still to come: by a tuple's path if it is one's.
func checkPlacedShort(t *testing.T, x *weigh.Tables, f api.Field, b string) {
	t.Helper()
	for _, in := range places() {
		all := in.ahead + string(turnedBy([]byte(b), in.turns))
		path := slices.Clone(in.path)
		if f.Kind == api.Tuple {
			path = append(path, 0)
		}
		wantBad(t, x, in.f(f), all, api.ErrFieldShort, len(all), nil, path...)
	}
}

// TestTakeBools is P14.2: every byte behind the tag.
func TestTakeBools(t *testing.T) {
	x := odd(t)
	for c := range 0x100 {
		rises, falls := string([]byte{0x11, byte(c)}), string([]byte{0x21, 0xff - byte(c)})
		if c > 1 {
			badPlaced(t, x, is(api.Bool), rises, api.ErrFieldShape, 1, nil)
			badPlaced(t, x, down(is(api.Bool)), falls, api.ErrFieldShape, 1, nil)
			continue
		}
		for _, in := range places() {
			for f, b := range map[bool]string{false: rises, true: falls} {
				g := is(api.Bool)
				g.Down = f
				all := in.ahead + string(turnedBy([]byte(b), in.turns)) + in.tail
				wantTake(t, x, in.f(g), all, in.p(boolPart(c == 1)), len(all))
			}
		}
	}
	badPlaced(t, x, is(api.Bool), "\x11", api.ErrFieldShort, 1, nil)
	badPlaced(t, x, down(is(api.Bool)), "\x21", api.ErrFieldShort, 1, nil)
}

// TestTakeNumbers is P14.2: the edges of what a number's first bytes say.
func TestTakeNumbers(t *testing.T) {
	x := odd(t)
	long := func(head string, n int, first, rest string) string {
		return head + first + strings.Repeat(rest, n-1)
	}
	bad := func(rises string, code api.Errno, at int, why error) {
		t.Helper()
		badPlaced(t, x, is(api.Int), "\x12"+rises, code, at, why)
		badPlaced(t, x, down(is(api.Int)), "\x22"+string(turnedBy([]byte(rises), 1)), code, at, why)
	}
	// bytes that end
	for rises, at := range map[string]int{
		"": 1, "\x81": 2, "\x82": 2, "\x82\x01": 3, "\x7f": 2, "\x7e\xfe": 3, "\xff": 2, "\x01": 2,
		"\xff\x7f": 3, "\x01\x80": 3, "\xff\xff": 3, "\x01\x00": 3, "\xff\x01": 3, "\x01\xfe": 3, // how many are wanted is said by bytes that may not be, too
		long("\xfe", 125, "\x01", "\x01"): 127, long("\x02", 125, "\xfe", "\xfe"): 127,
		long("\xff\x7f", 126, "\x01", "\x01"): 129, long("\x01\x80", 126, "\xfe", "\xfe"): 129,
		long("\xff\xff", 254, "\x01", "\x01"): 257, long("\x01\x00", 254, "\xfe", "\xfe"): 257,
		long("\xff\x7e", 125, "\x01", "\x01"): 128, long("\x01\x81", 125, "\xfe", "\xfe"): 128,
		// ahead of all else that is looked at
		"\x82\x00": 3, "\x7e\xff": 3, "\xff\x03\x00\x00": 5, "\x01\xfc\x00\x00": 5, long("\xff\x80", 127, "\x00", "\x00"): 130,
	} {
		bad(rises, api.ErrFieldShort, at, nil)
	}
	// no number's bytes
	for _, rises := range []string{
		"\x00", "\x81\x00", "\x82\x00\x01", "\x7f\xff", "\x7e\xff\x00",
		"\xff\x00", "\xff\x01\x01", "\xff\x02\x01\x01", "\x01\xff", "\x01\xfe\xfe", "\x01\xfd\xfe\xfe",
		long("\xff\x7e", 126, "\x01", "\x01"), long("\x01\x81", 126, "\xfe", "\xfe"),
		long("\xff\x7f", 127, "\x00", "\x01"), long("\x01\x80", 127, "\xff", "\xfe"),
		long("\xfe", 126, "\x00", "\xff"), long("\x02", 126, "\xff", "\x00"),
		long("\xff\xff", 255, "\x00", "\xff"), long("\x01\x00", 255, "\xff", "\x00"),
	} {
		bad(rises, api.ErrFieldShape, 1, api.ErrNatForm)
	}
	// and what is one, right beside them
	for rises, n := range map[string]api.Num{
		"\x80": {}, "\x81\x01": num(1), "\x82\x01\x00": num(256), "\x7f\xfe": num(-1), "\x7f\x00": num(-255), "\x7e\xfe\xff": num(-256),
		long("\xff\x7f", 127, "\x01", "\x00"): {Mag: long("", 127, "\x01", "\x00")},
		long("\x01\x80", 127, "\xfe", "\xff"): {Below: true, Mag: long("", 127, "\x01", "\x00")},
		long("\xfe", 126, "\xff", "\xff"):     {Mag: long("", 126, "\xff", "\xff")},
		long("\x02", 126, "\x00", "\x00"):     {Below: true, Mag: long("", 126, "\xff", "\xff")},
		long("\xff\xff", 255, "\x01", "\xff"): {Mag: long("", 255, "\x01", "\xff")},
		long("\x01\x00", 255, "\xfe", "\x00"): {Below: true, Mag: long("", 255, "\x01", "\xff")},
	} {
		wantTake(t, x, is(api.Int), "\x12"+rises+"\x00", numPart(n), 1+len(rises))
		wantTake(t, x, down(is(api.Int)), "\x22"+string(turnedBy([]byte(rises), 1))+"\x00", numPart(n), 1+len(rises))
	}
}

// TestTakeNumberHeads is P14.2: all first and second bytes, of a few to come and of all that can be wanted, against the words.
func TestTakeNumberHeads(t *testing.T) {
	x := empty(t)
	for first := range 0x100 {
		for second := range 0x100 {
			for _, rest := range []string{"", "\x00", "\x01\x01", "\xfe\xff", strings.Repeat("\x01", 126), strings.Repeat("\x00", 255), strings.Repeat("\xff", 256)} {
				b := string([]byte{0x12, byte(first), byte(second)}) + rest
				checkTake(t, x, is(api.Int), b)
				if first < 3 || first > 0xfd || second%16 == 0 {
					checkTake(t, x, down(is(api.Int)), "\x22"+string(turnedBy([]byte(b[1:]), 1)))
				}
			}
		}
	}
}

// TestTakeBounds is P14.2: numbers out of a field's bounds, behind all else that may be wrong with them.
func TestTakeBounds(t *testing.T) {
	x := empty(t)
	for _, c := range []struct{ low, high int64 }{{-300, 300}, {0, 0}, {5, 5}, {-1, -1}, {1, 70000}, {-70000, -256}} {
		f := bounded(num(c.low), num(c.high))
		for _, n := range []int64{-70001, -70000, -301, -300, -299, -257, -256, -255, -2, -1, 0, 1, 2, 4, 5, 6, 255, 256, 299, 300, 301, 69999, 70000, 70001} {
			for _, g := range []api.Field{f, down(f)} {
				free := is(api.Int)
				free.Down = g.Down
				b := putOf(t, x, free, intPart(n))
				if n >= c.low && n <= c.high {
					wantTake(t, x, g, b, intPart(n), len(b))
				} else {
					badPlaced(t, x, g, b, api.ErrFitRange, 1, nil)
				}
			}
		}
		badPlaced(t, x, f, "\x12\x82\x00\x01", api.ErrFieldShape, 1, api.ErrNatForm)
		badPlaced(t, x, f, "\x12\x83\xff\xff", api.ErrFieldShort, 4, nil)
	}
	// bounds of all the bytes that a number may have
	great := api.Num{Mag: strings.Repeat("\xff", 255)}
	least := api.Num{Below: true, Mag: great.Mag}
	for _, n := range []api.Num{great, least, num(0)} {
		b := putOf(t, x, is(api.Int), numPart(n))
		wantTake(t, x, bounded(least, great), b, numPart(n), len(b))
		wantTake(t, x, bounded(n, n), b, numPart(n), len(b))
	}
	wantBad(t, x, bounded(num(0), great), putOf(t, x, is(api.Int), numPart(least)), api.ErrFitRange, 1, nil)
	wantBad(t, x, bounded(least, num(0)), putOf(t, x, is(api.Int), numPart(great)), api.ErrFitRange, 1, nil)
}

// TestTakeIDs is P14.2: sixteen bytes, whatever they are, and no fewer.
func TestTakeIDs(t *testing.T) {
	x := odd(t)
	for _, p := range samples()[api.ID] {
		for i := range 16 {
			badPlaced(t, x, is(api.ID), "\x14"+p.Raw[:i], api.ErrFieldShort, 1+i, nil)
			badPlaced(t, x, down(is(api.ID)), "\x24"+p.Raw[:i], api.ErrFieldShort, 1+i, nil)
		}
		wantTake(t, x, is(api.ID), "\x14"+p.Raw+"\x00\x01", p, 17)
		wantTake(t, x, down(is(api.ID)), "\x24"+string(turnedBy([]byte(p.Raw), 1))+"\x00", p, 17)
	}
}

// TestTakeEscapes is P14.2: what is wrong with escapes, and where: at the 00, at the end of the bytes.
func TestTakeEscapes(t *testing.T) {
	x := odd(t)
	for _, k := range []api.Kind{api.Bytes, api.Name} {
		tag := string([]byte{plainTag(is(k))})
		fall := string([]byte{plainTag(down(is(k)))})
		bad := func(rises string, code api.Errno, at int, why error) {
			t.Helper()
			for _, m := range []int{0, 1, 65536} { // how many bytes there may be comes later
				badPlaced(t, x, most(m, is(k)), tag+rises, code, at, why)
				badPlaced(t, x, most(m, down(is(k))), fall+string(turnedBy([]byte(rises), 1)), code, at, why)
			}
		}
		for rises, at := range map[string]int{"": 1, "a": 2, "ab": 3, "\x00": 2, "a\x00": 3, "\x00\xff": 3, "a\x00\xff": 4, "\x00\xff\x00": 4, "\x01": 2, "\xff": 2, "\x00\xff\x01": 4, "\x00\xff\xff\x00": 5} {
			bad(rises, api.ErrFieldShort, at, nil)
		}
		for c := range 0x100 {
			if c == 0x01 || c == 0xff {
				continue
			}
			one := string([]byte{byte(c)})
			bad("\x00"+one, api.ErrFieldEscape, 1, api.ErrOrdForm)
			bad("a\x00"+one+"\x00\x01", api.ErrFieldEscape, 2, api.ErrOrdForm)
			bad("\x00\xff\x00"+one+"\x00\x02", api.ErrFieldEscape, 3, api.ErrOrdForm)
			bad("\xff\xffab\x00\xff\x00"+one, api.ErrFieldEscape, 7, api.ErrOrdForm) // and whatever else is wrong
		}
		wantTake(t, x, is(k), tag+"\x00\xff\x01\x00\x01\x00\x02", rawPart(k, "\x00\x01"), 6)
		wantTake(t, x, down(is(k)), fall+"\xff\x00\xfe\xff\xfe\x00\x02", rawPart(k, "\x00\x01"), 6)
	}
}

// TestTakeRaws is P14.2: all short rows of the bytes that count in escapes and in UTF-8, against the words.
func TestTakeRaws(t *testing.T) {
	x := odd(t)
	among := []byte{0x00, 0x01, 0xff, 'a', 0xc3, 0xa9}
	var rows [][]byte
	for last := [][]byte{nil}; len(last[0]) < 5; {
		var next [][]byte
		for _, row := range last {
			for _, c := range among {
				next = append(next, append(slices.Clone(row), c))
			}
		}
		rows = append(rows, next...)
		last = next
	}
	for _, row := range rows {
		for _, k := range []api.Kind{api.Bytes, api.Name} {
			for _, m := range []int{0, 1, 2, 65536} {
				f := most(m, is(k))
				checkTake(t, x, f, string([]byte{plainTag(f)})+string(row)+"\x00\x01")
				checkTake(t, x, down(f), string([]byte{plainTag(down(f))})+string(turnedBy(row, 1))+"\xff\xfe")
				if m == 2 {
					checkTake(t, x, f, string([]byte{plainTag(f)})+string(row))
					checkTake(t, x, down(tupleOf(f)), "\x27"+string(turnedBy([]byte{plainTag(f)}, 1))+string(turnedBy(row, 1))+"\xfe")
				}
			}
		}
	}
}

// TestTakeMost is P14.2: more bytes than Most, without what escapes them, and then what is no UTF-8.
func TestTakeMost(t *testing.T) {
	x := odd(t)
	wantTake(t, x, most(3, is(api.Bytes)), "\x13\x00\xff\x00\xff\x00\xff\x00\x01", bytesPart("\x00\x00\x00"), 9)
	badPlaced(t, x, most(2, is(api.Bytes)), "\x13\x00\xff\x00\xff\x00\xff\x00\x01", api.ErrFitLong, 1, nil)
	badPlaced(t, x, most(2, down(is(api.Bytes))), "\x23\xff\x00\xff\x00\xff\x00\xff\xfe", api.ErrFitLong, 1, nil)
	wantTake(t, x, most(0, is(api.Bytes)), "\x13\x00\x01", bytesPart(""), 3)
	badPlaced(t, x, most(0, is(api.Bytes)), "\x13\x61\x00\x01", api.ErrFitLong, 1, nil)
	badPlaced(t, x, most(1, is(api.Name)), "\x15\xc3\xa9\x00\x01", api.ErrFitLong, 1, nil)
	badPlaced(t, x, most(1, is(api.Name)), "\x15\xff\xff\x00\x01", api.ErrFitLong, 1, nil)
	for _, raw := range []string{"\xff", "\x80", "a\xc3", "ab\xe2\x82", "\xc0\x80", "\xed\xa0\x80", "\xf4\x90\x80\x80"} {
		badPlaced(t, x, most(4, is(api.Name)), "\x15"+raw+"\x00\x01", api.ErrFitUtf, 1, api.ErrUtfForm)
		badPlaced(t, x, most(4, down(is(api.Name))), "\x25"+string(turnedBy([]byte(raw), 1))+"\xff\xfe", api.ErrFitUtf, 1, api.ErrUtfForm)
		wantTake(t, x, most(4, is(api.Bytes)), "\x13"+raw+"\x00\x01", bytesPart(raw), len(raw)+3)
	}
	long := strings.Repeat("a", 65536)
	for _, k := range []api.Kind{api.Bytes, api.Name} {
		tag := string([]byte{plainTag(is(k))})
		wantTake(t, x, is(k), tag+long+"\x00\x01", rawPart(k, long), 65539)
		wantBad(t, x, is(k), tag+long+"a\x00\x01", api.ErrFitLong, 1, nil)
		wantBad(t, x, is(k), tag+long+long+"\x00\x02", api.ErrFieldEscape, 131073, api.ErrOrdForm)
		wantBad(t, x, is(k), tag+long+long, api.ErrFieldShort, 131073, nil)
	}
}

// TestTakeModes is P14.2: every mode byte, by each collation: its own, and no other.
func TestTakeModes(t *testing.T) {
	x := odd(t)
	for by, own := range modes() {
		for c := range 0x100 {
			rises := []byte(putOf(t, x, collated(by), textPart("a")))
			falls := []byte(putOf(t, x, down(collated(by)), textPart("a")))
			rises[1], falls[1] = byte(c), 0xff-byte(c)
			if byte(c) == own {
				wantTake(t, x, collated(by), string(rises), textPart("a"), len(rises))
				wantTake(t, x, down(collated(by)), string(falls), textPart("a"), len(falls))
				continue
			}
			badPlaced(t, x, collated(by), string(rises), api.ErrFieldShape, 1, nil)
			wantBad(t, x, collated(by), string(rises[:2]), api.ErrFieldShape, 1, nil)
			wantBad(t, x, down(collated(by)), string(falls), api.ErrFieldShape, 1, nil)
		}
		badPlaced(t, x, collated(by), "\x16", api.ErrFieldShort, 1, nil)
		// what one collation tells another one refuses
		for other := range modes() {
			if by != other {
				wantBad(t, x, collated(other), putOf(t, x, collated(by), textPart("a")), api.ErrFieldShape, 1, nil)
			}
		}
	}
}

// TestTakeSortKeys is P14.2: a sort key of each Strength: two bytes and two bytes, until 0000 has come as often.
func TestTakeSortKeys(t *testing.T) {
	x := odd(t)
	for by := range modes() {
		for _, s := range []string{"", "a", "dc", "\u00e1 A", "\u0323"} {
			f := collated(by)
			all := putOf(t, x, f, textPart(s))
			key, _ := x.Key(by, s)
			at := 2 + len(key) // where the text stands
			wantTake(t, x, f, all+"\x00\x00", textPart(s), len(all))
			for i := 2; i < len(all); i++ { // bytes that end
				badPlaced(t, x, f, all[:i], api.ErrFieldShort, i, nil)
			}
			// a level more or less: what is read as the text stands elsewhere
			wantBad(t, x, f, all[:at]+"\x00\x00"+all[at:], api.ErrFieldEscape, at, api.ErrOrdForm)
			badPlaced(t, x, f, all[:at]+"\x00\x02", api.ErrFieldEscape, at, api.ErrOrdForm)
			badPlaced(t, x, f, all[:at]+"a\x00\xff\x00\x80", api.ErrFieldEscape, at+3, api.ErrOrdForm)
			// another sort key: each weight another one, or one more; never so that 0000 comes earlier or later
			for i := 2; i < at; i += 2 {
				if all[i:i+2] != "\x00\x00" {
					badPlaced(t, x, f, all[:i]+"\x77\x77"+all[i+2:], api.ErrFieldWeight, 2, nil)
				}
				badPlaced(t, x, f, all[:i]+"\x00\x01"+all[i:], api.ErrFieldWeight, 2, nil)
			}
			// whatever weights there are, the text is looked at first
			badPlaced(t, x, f, all[:2]+"\x77\x77"+all[2:at]+"a\xff\x00\x01", api.ErrFitUtf, at+2, api.ErrUtfForm)
			badPlaced(t, x, f, all[:at]+"\xc3\x00\x01", api.ErrFitUtf, at, api.ErrUtfForm)
			badPlaced(t, x, f, all[:2]+"\x77\x77"+all[2:at]+"\xff\x00\x02", api.ErrFieldEscape, at+3, api.ErrOrdForm)
			badPlaced(t, x, f, all[:2]+"\x77\x77"+all[2:at]+"\xff\x00", api.ErrFieldShort, at+4, nil)
			// another text that weighs as much, and one that does not
			wantTake(t, x, f, all[:at]+s+"\u0323\x00\x01", textPart(s+"\u0323"), at+len(s)+4)
			badPlaced(t, x, f, all[:at]+s+"b\x00\x01", api.ErrFieldWeight, 2, nil)
			badPlaced(t, x, down(f), "\x26"+string(turnedBy([]byte(all[1:at]+s+"b\x00\x01"), 1)), api.ErrFieldWeight, 2, nil)
		}
	}
	// by other tables the same bytes are no text's
	f := collated(api.Collate{Strength: 1})
	wantBad(t, empty(t), f, putOf(t, x, f, textPart("a")), api.ErrFieldWeight, 2, nil)
	// a byte that is left over is none of a sort key, and a 0000 that stands across two weights ends nothing
	wantBad(t, x, f, "\x16\x21\x10", api.ErrFieldShort, 3, nil)
	wantBad(t, x, f, "\x16\x21\x10\x00\x00", api.ErrFieldShort, 5, nil)
	wantBad(t, x, f, "\x16\x21\x10\x00\x00\x01\x00", api.ErrFieldShort, 7, nil)
}

// TestTakeLongTexts is P14.2: a text of more than 65536 bytes, ahead of what is no UTF-8 and of what it weighs.
func TestTakeLongTexts(t *testing.T) {
	x := load(t, "", "0061;[.1000.0020.0002]")
	f := collated(api.Collate{Strength: 1})
	long := strings.Repeat("a", 65536)
	key := "\x16\x21" + strings.Repeat("\x10\x00", 65536)
	wantTake(t, x, f, key+"\x00\x00"+long+"\x00\x01", textPart(long), 65536*3+6)
	wantBad(t, x, f, key+"\x10\x00\x00\x00"+long+"a\x00\x01", api.ErrFitLong, 65536*2+6, nil)
	wantBad(t, x, f, "\x16\x21\x00\x00"+long+"\xff\x00\x01", api.ErrFitLong, 4, nil)
	wantBad(t, x, f, "\x16\x21\x00\x00"+long[1:]+"\xff\x00\x01", api.ErrFitUtf, 4, api.ErrUtfForm)
	wantBad(t, x, f, "\x16\x21\x00\x00"+long+"\x00\x01", api.ErrFieldWeight, 2, nil)
	wantBad(t, x, f, "\x16\x21\x00\x00"+long+long+"\x00\x02", api.ErrFieldEscape, 131076, api.ErrOrdForm)
	wantBad(t, x, f, "\x16\x21\x00\x00"+strings.Repeat("\x00\xff", 65537)+"\x00\x01", api.ErrFitLong, 4, nil)
	wantBad(t, x, down(tupleOf(f)), "\x27"+string(turnedBy([]byte("\x16\x21\x00\x00"+long+"a\x00\x01"), 1))+"\xfe", api.ErrFitLong, 5, nil, 0)
}

// TestTakeTuples is P14.2: every byte behind a tuple's fields, and what is wrong within it.
func TestTakeTuples(t *testing.T) {
	x := odd(t)
	inner := tupleOf(is(api.Bool), down(is(api.Bool)))
	row := tuplePart(boolPart(true), boolPart(true))
	for c := range 0x100 {
		one := string([]byte{byte(c)})
		if c == 0x01 {
			wantPlaced(t, inner, row, "\x17\x11\x01\x21\xfe\x01")
			wantPlaced(t, down(inner), row, "\x27\xee\xfe\xde\x01\xfe")
			continue
		}
		badPlaced(t, x, inner, "\x17\x11\x01\x21\xfe"+one, api.ErrFieldShape, 5, nil)
		badPlaced(t, x, down(inner), "\x27\xee\xfe\xde\x01"+string([]byte{0xff - byte(c)}), api.ErrFieldShape, 5, nil)
	}
	badPlaced(t, x, inner, "\x17\x11\x01\x21\xfe", api.ErrFieldShort, 5, nil)
	badPlaced(t, x, down(inner), "\x27\xee\xfe\xde\x01", api.ErrFieldShort, 5, nil)

	// the first thing that is wrong, with the path of its field
	f := tupleOf(is(api.Bool), down(tupleOf(bounded(num(0), num(5)), most(1, is(api.Name)))), is(api.Int))
	all := putOf(t, x, f, tuplePart(boolPart(false), tuplePart(intPart(5), namePart("a")), intPart(-1)))
	if all != "\x17\x11\x00\x27\xed\x7e\xfa\xea\x9e\xff\xfe\xfe\x12\x7f\xfe\x01" {
		t.Fatal(hex(all))
	}
	swap := func(at int, s string) string { return all[:at] + s + all[at+len(s):] }
	wantBad(t, x, f, swap(0, "\x27"), api.ErrFieldTag, 0, nil)
	wantBad(t, x, f, swap(1, "\xee"), api.ErrFieldTag, 1, nil, 0)
	wantBad(t, x, f, swap(2, "\x02\x17"), api.ErrFieldShape, 2, nil, 0)
	wantBad(t, x, f, swap(3, "\x17"), api.ErrFieldTag, 3, nil, 1)
	wantBad(t, x, f, swap(4, "\x12"), api.ErrFieldTag, 4, nil, 1, 0)
	wantBad(t, x, f, swap(5, "\x7e\xff"), api.ErrFieldShape, 5, api.ErrNatForm, 1, 0)
	wantBad(t, x, f, swap(6, "\xf9"), api.ErrFitRange, 5, nil, 1, 0)
	wantBad(t, x, f, swap(7, "\x15"), api.ErrFieldTag, 7, nil, 1, 1)
	wantBad(t, x, f, swap(8, "\x00"), api.ErrFitUtf, 8, api.ErrUtfForm, 1, 1)
	wantBad(t, x, f, all[:8]+"\x9e"+all[8:], api.ErrFitLong, 8, nil, 1, 1)
	wantBad(t, x, f, swap(9, "\x80"), api.ErrFieldShort, 16, nil, 1, 1) // the name goes on and on
	wantBad(t, x, f, swap(10, "\xfd"), api.ErrFieldEscape, 9, api.ErrOrdForm, 1, 1)
	wantBad(t, x, f, swap(11, "\x01"), api.ErrFieldShape, 11, nil, 1)
	wantBad(t, x, f, swap(12, "\xed"), api.ErrFieldTag, 12, nil, 2)
	wantBad(t, x, f, swap(15, "\xfe"), api.ErrFieldShape, 15, nil)
	for i, path := range [][]int{{}, {0}, {0}, {1}, {1, 0}, {1, 0}, {1, 0}, {1, 1}, {1, 1}, {1, 1}, {1, 1}, {1}, {2}, {2}, {2}, {}} {
		wantBad(t, x, f, all[:i], api.ErrFieldShort, i, nil, path...)
	}
	wantTake(t, x, f, all+"\x01", tuplePart(boolPart(false), tuplePart(intPart(5), namePart("a")), intPart(-1)), 16)
}

// TestTakeNullWithin is P14.2: the tag of a null, turned as its tuples are and not as its field; that of a null which the field does not let be is none.
func TestTakeNullWithin(t *testing.T) {
	x := odd(t)
	for k := api.Bool; k <= api.Tuple; k++ {
		for _, g := range []api.Field{is(k), down(is(k))} {
			first, last := nulls(api.NullFirst, g), nulls(api.NullLast, g)
			badPlaced(t, x, g, "\x02", api.ErrFieldTag, 0, nil)
			badPlaced(t, x, g, "\x7d", api.ErrFieldTag, 0, nil)
			badPlaced(t, x, first, "\x7d", api.ErrFieldTag, 0, nil)
			badPlaced(t, x, last, "\x02", api.ErrFieldTag, 0, nil)
			badPlaced(t, x, first, "\xfd", api.ErrFieldTag, 0, nil)
			badPlaced(t, x, last, "\x82", api.ErrFieldTag, 0, nil)
			wantTake(t, x, tupleOf(first, last), "\x17\x02\x7d\x01", tuplePart(null(), null()), 4)
			wantTake(t, x, down(tupleOf(first, last)), "\x27\xfd\x82\xfe", tuplePart(null(), null()), 4)
			wantTake(t, x, down(tupleOf(down(tupleOf(first, last)))), "\x27\xd8\x02\x7d\x01\xfe", tuplePart(tuplePart(null(), null())), 6)
		}
	}
}

// TestTakeLong is P14.2: what stands behind does not matter, however much it is, and whatever.
func TestTakeLong(t *testing.T) {
	x := odd(t)
	behind := strings.Repeat("\x00\x02\xff", 1<<20)
	wantTake(t, x, is(api.Bool), "\x11\x01"+behind, boolPart(true), 2)
	wantTake(t, x, down(is(api.Bytes)), "\x23\xff\xfe"+behind, bytesPart(""), 3)
	f, b, p := tupleOf(), "\x17", tuplePart()
	for i := range 63 {
		f.Fields = append(f.Fields, named("f"+strconv.Itoa(i), is(api.Int)))
		f.Fields[i].Down = i%2 == 1
		b += []string{"\x12\x80", "\x22\x7f"}[i%2]
		p.Items = append(p.Items, intPart(0))
	}
	b += "\x01"
	v, n, err := field.Take(x, f, b+behind)
	if err != nil || n != len(b) || !reflect.DeepEqual(value.Tell(v), p) {
		t.Errorf("%s, %d, %s", brief(value.Tell(v)), n, told(err))
	}
	for i := range f.Fields {
		at := 1 + 2*i
		wantBad(t, x, f, b[:at]+"\x00"+b[at+1:], api.ErrFieldTag, at, nil, i)
	}
}

// TestTakeDeep is P14.2: a path of fifteen places, that is of sixteen fields within one another.
func TestTakeDeep(t *testing.T) {
	x := odd(t)
	r := rand.New(rand.NewSource(143))
	for range 40 {
		f := is(api.Bool)
		var path []int
		for range 15 {
			f.Down = r.Intn(2) == 0
			if r.Intn(2) == 0 {
				f, path = tupleOf(f), append([]int{0}, path...)
			} else {
				f, path = tupleOf(is(api.Bool), f), append([]int{1}, path...)
			}
		}
		p := anyPart(r, f)
		b := putOf(t, x, f, p)
		wantTake(t, x, f, b, p, len(b))
		var deepest *api.Fault
		for i := range len(b) {
			checkTake(t, x, f, b[:i])
			if bad := checkTake(t, x, f, b[:i]+string([]byte{b[i] ^ 0x40})+b[i+1:]); deepest == nil || len(bad.Path) >= len(deepest.Path) {
				deepest = bad
			}
		}
		if !slices.Equal(deepest.Path, path) {
			t.Errorf("%v, not %v", deepest.Path, path)
		}
	}
}

// TestTakeAny is P14.2: of fields of every shape bytes that were put and then cut, or changed in one byte or in more, and bytes of no sense, against the words.
func TestTakeAny(t *testing.T) {
	x := odd(t)
	r := rand.New(rand.NewSource(144))
	codes := map[api.Errno]int{}
	see := func(bad *api.Fault) {
		if bad == nil {
			codes[api.OK]++
		} else {
			codes[bad.Code]++
		}
	}
	few := []byte{0x00, 0x01, 0x02, 0x7d, 0x7f, 0x80, 0x81, 0x82, 0xfd, 0xfe, 0xff, 'a'}
	for range 3000 {
		f := anyField(r, "a", 1+r.Intn(5))
		b := putOf(t, x, f, anyPart(r, f))
		see(checkTake(t, x, f, b[:r.Intn(len(b)+1)]))
		for range 12 {
			c := []byte(b)
			for range 1 + r.Intn(2) {
				i := r.Intn(len(c))
				switch r.Intn(5) {
				case 0:
					c[i] = few[r.Intn(len(few))]
				case 1:
					c[i] = byte(r.Intn(256))
				case 2:
					c[i] = 0xff - c[i]
				case 3:
					c = slices.Insert(c, i, few[r.Intn(len(few))])
				case 4:
					c = append(slices.Delete(c, i, i+1), few[r.Intn(len(few))])
				}
			}
			see(checkTake(t, x, f, string(c)))
		}
		c := []byte{b[0]}
		for range r.Intn(30) {
			c = append(c, few[r.Intn(len(few))])
		}
		see(checkTake(t, x, f, string(c)))
	}
	for _, e := range []api.Errno{api.OK, api.ErrFieldShort, api.ErrFieldTag, api.ErrFieldEscape, api.ErrFieldShape, api.ErrFieldWeight, api.ErrFitRange, api.ErrFitLong, api.ErrFitUtf} {
		if codes[e] < 20 {
			t.Errorf("error %d: %d times", e, codes[e])
		}
	}
}

// TestTakeNil is R5: nil tables come first, also where no text is to be weighed, and whatever else is wrong.
func TestTakeNil(t *testing.T) {
	for k := api.Bool; k <= api.Tuple; k++ {
		for _, f := range []api.Field{is(k), nulls(api.NullFirst, is(k)), down(is(k)), nulls(9, is(k)), named("A", is(k)), {}} {
			for _, b := range []string{"", "\x02", "\x11\x01", "\x12\x80", "\x13\x00\x01", "\x17\x12\x80\x01", "\xff"} {
				bad := refusedTake(t, nil, f, b)
				wantFault(t, bad, api.ErrNil, api.OK)
				if bad.At != 0 {
					t.Error(told(bad))
				}
			}
		}
	}
}

// TestTakeArg is R5: a field that may not be comes next, ahead of all bytes; its Why is what schema.Check answers.
func TestTakeArg(t *testing.T) {
	x := odd(t)
	for _, c := range wrongFields() {
		for _, b := range []string{"", "\x02", "\x11\x01", "\x12\x80", "\x13\x00\x01", "\x17\x01", "\x17\x11\x01\x01", "\xff"} {
			bad := refusedTake(t, x, c.f, b)
			wantFault(t, bad, api.ErrArg, c.why)
			if want := schema.Check(api.Schema{Limit: 65536, Fields: []api.Field{c.f}}); bad.At != 0 || !sameError(bad.Why, want) {
				t.Errorf("%s; %s: %s, not %s", brief(c.f), hex(b), told(bad), told(want))
			}
		}
	}
}

// TestTakeTwice is R2: what a call answers hangs on its arguments; what is handed in is not written into, and what comes out is another one each time.
func TestTakeTwice(t *testing.T) {
	x := odd(t)
	spare := make([]api.Field, 2, 4)
	spare[0], spare[1] = nulls(api.NullFirst, is(api.Int)), named("b", down(is(api.Text)))
	f := down(api.Field{Name: "a", Kind: api.Tuple, Fields: spare})
	kept := slices.Clone(spare[:4])
	b := putOf(t, x, f, tuplePart(intPart(7), textPart("a")))
	v, n, err := field.Take(x, f, b)
	if err != nil {
		t.Fatal(told(err))
	}
	for range 3 {
		told := value.Tell(v)
		told.Items[0] = null() // what a value tells is no part of it
		w, m, err := field.Take(x, f, b)
		if err != nil || m != n || !value.Same(v, w) || v == w {
			t.Errorf("%s, %d", brief(value.Tell(w)), m)
		}
	}
	bad := b[:4] + "\x00"
	one, two := refusedTake(t, x, f, bad), refusedTake(t, x, f, bad)
	if one == two || !sameError(one, two) || len(one.Path) != 1 {
		t.Errorf("%s, %s", told(one), told(two))
	}
	one.Path[0] = 9
	if two.Path[0] == 9 {
		t.Error("one path in two Faults")
	}
	for _, f := range []api.Field{{}, is(api.Bool)} {
		if one, two := refusedTake(t, x, f, ""), refusedTake(t, x, f, ""); one == two || one.Why != nil && one.Why == two.Why {
			t.Error("one Fault twice")
		}
	}
	if !reflect.DeepEqual(spare[:4], kept) {
		t.Errorf("%+v", spare[:4])
	}
}
