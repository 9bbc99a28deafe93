package ord

import (
	"encoding/hex"
	"math"
	"slices"
	"strings"
	"testing"

	"dovetail/api"
)

func raw(digits string) string {
	b, err := hex.DecodeString(digits)
	if err != nil {
		panic(err)
	}
	return string(b)
}

// texts are all of up to four bytes of the ones that mean something to an escape, or are next to one that does.
func texts() []string {
	all := []string{""}
	for from := 0; len(all[from]) < 4; from++ {
		for _, c := range []byte{0x00, 0x01, 0x02, 0x61, 0xfe, 0xff} {
			all = append(all, all[from]+string([]byte{c}))
		}
	}
	return all
}

// few are those of at most two bytes: for tests of pairs and more.
func few() []string {
	return slices.DeleteFunc(texts(), func(s string) bool { return len(s) > 2 })
}

func everyByte() string {
	var b strings.Builder
	for c := range 256 {
		b.WriteByte(byte(c))
	}
	return b.String()
}

// P1.1

func TestCompareExamples(t *testing.T) {
	for _, x := range []struct {
		a, b string
		want int
	}{
		{"61", "6100", -1}, {"ff", "00", 1}, {"", "", 0},
		{"", "00", -1}, {"00", "", 1}, {"7f", "80", -1}, {"80", "7f", 1},
		{"6162", "6162", 0}, {"62", "6162", 1}, {"6161", "62", -1},
		{"00ff", "01", -1}, {"ffff", "ff", 1}, {"610062", "610061", 1},
	} {
		if got := Compare(raw(x.a), raw(x.b)); got != x.want {
			t.Errorf("Compare(%s, %s) = %d, not %d", x.a, x.b, got, x.want)
		}
	}
}

func TestCompareIsTheOrderOfBytes(t *testing.T) {
	all := append(texts(), everyByte())
	for _, a := range all {
		for _, b := range all {
			if got, want := Compare(a, b), strings.Compare(a, b); got != want {
				t.Fatalf("Compare(%x, %x) = %d, not %d", a, b, got, want)
			}
		}
	}
}

func TestCompareTellsSingleBytesApart(t *testing.T) {
	for a := range 256 {
		for b := range 256 {
			want := 0
			if a < b {
				want = -1
			} else if a > b {
				want = 1
			}
			if got := Compare("x"+string([]byte{byte(a)}), "x"+string([]byte{byte(b)})); got != want {
				t.Fatalf("Compare of %02x and %02x = %d, not %d", a, b, got, want)
			}
		}
	}
}

// P1.2

func TestEscapeExamples(t *testing.T) {
	for _, x := range [][2]string{
		{"", "0001"}, {"00", "00ff0001"}, {"6100ff", "6100ffff0001"},
		{"0000", "00ff00ff0001"}, {"0001", "00ff010001"}, {"ffff", "ffff0001"}, {"006100", "00ff6100ff0001"}, {"61", "610001"},
	} {
		if got := Escape(raw(x[0])); got != raw(x[1]) {
			t.Errorf("Escape(%s) = %x, not %s", x[0], got, x[1])
		}
	}
}

func TestEscapeOfEveryText(t *testing.T) {
	for _, s := range append(texts(), everyByte()) {
		want := strings.ReplaceAll(s, "\x00", "\x00\xff") + "\x00\x01"
		if got := Escape(s); got != want {
			t.Fatalf("Escape(%x) = %x, not %x", s, got, want)
		}
	}
}

// P1.3

func TestUnescapeExamples(t *testing.T) {
	for _, x := range []struct {
		s    string
		at   int
		text string
		end  int
		e    api.Errno
	}{
		{"6100ff000161", 0, "6100", 5, api.OK},
		{"0001", 0, "", 2, api.OK},
		{"610001", 1, "", 3, api.OK},
		{"00010001", 2, "", 4, api.OK},
		{"00010002", 0, "", 2, api.OK},
		{"00ff0001", 1, "ff", 4, api.OK},
		{"00ffff0001", 0, "00ff", 5, api.OK},
		{"01ff0001", 0, "01ff", 4, api.OK},

		{"61", 0, "", 1, api.ErrOrdForm},
		{"6100", 0, "", 2, api.ErrOrdForm},
		{"610002", 0, "", 2, api.ErrOrdForm},
		{"00ff00", 0, "", 3, api.ErrOrdForm},
		{"", 0, "", 0, api.ErrOrdForm},
		{"0001", 1, "", 2, api.ErrOrdForm},
		{"0001", 2, "", 2, api.ErrOrdForm},
		{"00ff", 0, "", 2, api.ErrOrdForm},
		{"000001", 0, "", 1, api.ErrOrdForm},
		{"00ff00000001", 0, "", 3, api.ErrOrdForm},
		{"00fe0001", 0, "", 1, api.ErrOrdForm},
		{"0001610002", 2, "", 4, api.ErrOrdForm},

		{"0001", -1, "", 0, api.ErrArg},
		{"0001", 3, "", 0, api.ErrArg},
		{"", 1, "", 0, api.ErrArg},
		{"", -1, "", 0, api.ErrArg},
		{"0001", math.MinInt, "", 0, api.ErrArg},
		{"0001", math.MaxInt, "", 0, api.ErrArg},
	} {
		text, end, e := Unescape(raw(x.s), x.at)
		if text != raw(x.text) || end != x.end || e != x.e {
			t.Errorf("Unescape(%s, %d) = %x, %d, %d", x.s, x.at, text, end, e)
		}
	}
}

// escapedAhead looks for the escaped text that s begins with among those of all texts that are short enough.
func escapedAhead(s string, all []string) (string, bool) {
	for _, x := range all {
		if strings.HasPrefix(s, strings.ReplaceAll(x, "\x00", "\x00\xff")+"\x00\x01") {
			return x, true
		}
	}
	return "", false
}

func TestUnescapeFindsWhatStandsThere(t *testing.T) {
	all := texts()
	for _, s := range all {
		for at := range len(s) + 1 {
			want, is := escapedAhead(s[at:], all)
			text, end, e := Unescape(s, at)
			if is != (e == api.OK) || text != want {
				t.Fatalf("Unescape(%x, %d) = %x, %d, %d", s, at, text, end, e)
			}
			if is && end != at+len(Escape(want)) {
				t.Fatalf("Unescape(%x, %d) ends at %d", s, at, end)
			}
			if !is && e != api.ErrOrdForm {
				t.Fatalf("Unescape(%x, %d) answers error %d", s, at, e)
			}
		}
	}
}

func TestUnescapeTellsTheBadByteBehindZero(t *testing.T) {
	for c := range 256 {
		s := "a\x00\xffb\x00" + string([]byte{byte(c)}) + "tail"
		text, end, e := Unescape(s, 0)
		switch {
		case c == 0x01:
			if text != "a\x00b" || end != 6 || e != api.OK {
				t.Errorf("behind 00 01: %x, %d, %d", text, end, e)
			}
		case c == 0xff:
			if text != "" || end != len(s) || e != api.ErrOrdForm {
				t.Errorf("behind 00 ff: %x, %d, %d", text, end, e)
			}
		case text != "" || end != 5 || e != api.ErrOrdForm:
			t.Errorf("behind 00 %02x: %x, %d, %d", c, text, end, e)
		}
	}
}

func TestUnescapeOfEachBeginning(t *testing.T) {
	for _, s := range append(texts(), everyByte()) {
		whole := Escape(s)
		for n := range len(whole) {
			if text, end, e := Unescape(whole[:n], 0); text != "" || end != n || e != api.ErrOrdForm {
				t.Fatalf("Unescape(%x, 0) = %x, %d, %d", whole[:n], text, end, e)
			}
		}
	}
}

// P1.4

func TestFlip(t *testing.T) {
	for _, x := range [][2]string{{"00ff61", "ff009e"}, {"", ""}, {"0001", "fffe"}, {"7f80", "807f"}} {
		if got := Flip(raw(x[0])); got != raw(x[1]) {
			t.Errorf("Flip(%s) = %x, not %s", x[0], got, x[1])
		}
	}
	turned := Flip(everyByte())
	if len(turned) != 256 {
		t.Fatalf("Flip of 256 bytes has %d", len(turned))
	}
	for c := range 256 {
		if int(turned[c]) != 255-c {
			t.Errorf("%02x is turned to %02x", c, turned[c])
		}
	}
}

// P1.5

func TestNext(t *testing.T) {
	for _, x := range [][2]string{
		{"61", "62"}, {"61ffff", "62"}, {"00", "01"},
		{"fe", "ff"}, {"00ff", "01"}, {"ff00", "ff01"}, {"ff00ff", "ff01"}, {"6100", "6101"}, {"61ff62", "61ff63"}, {"fffeff", "ffff"},
	} {
		if got, is := Next(raw(x[0])); got != raw(x[1]) || !is {
			t.Errorf("Next(%s) = %x, %v, not %s", x[0], got, is, x[1])
		}
	}
	for _, s := range []string{"", "ff", "ffff", "ffffff"} {
		if got, is := Next(raw(s)); got != "" || is {
			t.Errorf("Next(%s) = %x, %v", s, got, is)
		}
	}
}

// P1.6

func TestEscapedTextsAreReadBackWithAnythingBehind(t *testing.T) {
	for _, s := range append(texts(), everyByte()) {
		e := Escape(s)
		for _, behind := range few() {
			text, end, err := Unescape(e+behind, 0)
			if text != s || end != len(e) || err != api.OK {
				t.Fatalf("Unescape(%x, 0) = %x, %d, %d", e+behind, text, end, err)
			}
			text, end, err = Unescape(behind+e, len(behind))
			if text != s || end != len(behind)+len(e) || err != api.OK {
				t.Fatalf("Unescape(%x, %d) = %x, %d, %d", behind+e, len(behind), text, end, err)
			}
		}
	}
}

func TestEscapedTextsBeginNoOther(t *testing.T) {
	all := texts()
	for _, a := range all {
		for _, b := range all {
			if a != b && strings.HasPrefix(Escape(b), Escape(a)) {
				t.Fatalf("the escaped text of %x begins that of %x", a, b)
			}
		}
	}
}

func TestEscapedTextsKeepTheOrderWithAnythingBehind(t *testing.T) {
	all, behind := few(), few()
	for _, a := range all {
		for _, b := range all {
			if a == b {
				continue
			}
			want := Compare(a, b)
			for _, x := range behind {
				for _, y := range behind {
					left, right := Escape(a)+x, Escape(b)+y
					if got := Compare(left, right); got != want {
						t.Fatalf("Compare(%x, %x) = %d", left, right, got)
					}
					if got := Compare(Flip(left), Flip(right)); got != -want {
						t.Fatalf("Compare of %x and %x, turned, = %d", left, right, got)
					}
				}
			}
		}
	}
}

// P1.7

func TestNextEndsWhatBeginsAlike(t *testing.T) {
	all := texts()
	for _, s := range all {
		next, is := Next(s)
		if is && strings.HasPrefix(next, s) {
			t.Fatalf("Next(%x) = %x begins with it", s, next)
		}
		for _, x := range all {
			within := Compare(s, x) <= 0 && (!is || Compare(x, next) < 0)
			if within != strings.HasPrefix(x, s) {
				t.Fatalf("%x is within %x to %x (%v): %v", x, s, next, is, within)
			}
		}
	}
}

func TestFlipOfFlip(t *testing.T) {
	for _, s := range append(texts(), everyByte()) {
		if got := Flip(Flip(s)); got != s {
			t.Fatalf("Flip of Flip(%x) = %x", s, got)
		}
	}
}

// R1: long texts, too.

func TestLongTexts(t *testing.T) {
	const n = 1 << 20
	zeros, highs := strings.Repeat("\x00", n), strings.Repeat("\xff", n)
	e := Escape(zeros)
	if e != strings.Repeat("\x00\xff", n)+"\x00\x01" {
		t.Error("Escape of many 00")
	}
	if text, end, err := Unescape(e+"x", 0); text != zeros || end != 2*n+2 || err != api.OK {
		t.Errorf("Unescape of many 00: %d bytes, %d, %d", len(text), end, err)
	}
	if text, end, err := Unescape(highs, 0); text != "" || end != n || err != api.ErrOrdForm {
		t.Errorf("Unescape of many FF: %d bytes, %d, %d", len(text), end, err)
	}
	if got := Flip(zeros); got != highs {
		t.Error("Flip of many 00")
	}
	if got, is := Next("a" + highs); got != "b" || !is {
		t.Errorf("Next of many FF behind a: %d bytes, %v", len(got), is)
	}
	if got, is := Next(highs); got != "" || is {
		t.Errorf("Next of many FF: %d bytes, %v", len(got), is)
	}
	if got := Compare(highs, highs+"\x00"); got != -1 {
		t.Errorf("Compare of many FF = %d", got)
	}
}
