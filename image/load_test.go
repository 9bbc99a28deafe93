package image_test

import (
	"encoding/binary"
	"runtime"
	"strings"
	"testing"

	"dovetail/api"
	"dovetail/image"
	"dovetail/space"
)

// TestLoadShort is P21.2: what has fewer than 29 bytes is no image, whatever its beginning and its sum.
func TestLoadShort(t *testing.T) {
	noughts := "dovetail\x01" + strings.Repeat("\x00", 20)
	for n := range 29 {
		refuse(t, noughts[:n], api.ErrImageForm)
		refuse(t, strings.Repeat("\xff", n), api.ErrImageForm)
		if n >= 8 {
			refuse(t, summed(noughts[:n-8]), api.ErrImageForm)
		}
	}
	refuse(t, noughts, api.ErrImageSum) // 29 of them
	load(t, summed(noughts[:21]))
}

// TestLoadBeginning is P21.2: each of the first nine bytes, with the sum that it had and with its own.
func TestLoadBeginning(t *testing.T) {
	for _, b := range []string{save(t, space.New()), save(t, made(t))} {
		for i := range 9 {
			for n := range 256 {
				other := turned(b, i, byte(n))
				if other == b {
					continue
				}
				refuse(t, other, api.ErrImageForm)
				refuse(t, summed(other[:len(b)-8]), api.ErrImageForm)
			}
		}
		for _, ahead := range []string{"", "Dovetail\x01", "dovetail", "dovetail\x00", "dovetail ", "\x01dovetail", "\x01"} {
			refuse(t, summed(ahead+b[9:len(b)-8]), api.ErrImageForm)
			refuse(t, ahead+b[9:], api.ErrImageForm)
		}
		refuse(t, summed("dovetail\x01\x01"+b[9:len(b)-8]), api.ErrImageForm)
		refuse(t, "dovetail\x01\x01"+b[9:], api.ErrImageSum)
	}
}

// turned are bytes of which one is another one.
func turned(b string, at int, to byte) string { return b[:at] + string([]byte{to}) + b[at+1:] }

// TestLoadSum is P21.2: a sum that is wrong is told ahead of all that is wrong between the beginning and it.
func TestLoadSum(t *testing.T) {
	for _, b := range []string{save(t, space.New()), save(t, made(t)), framed("no image at all"), framed(bare() + "\x00"), framed(bare(holding("P", pText))), framed(piece("x") + piece("") + number(0))} {
		end := len(b) - 8
		var high [8]byte
		binary.BigEndian.PutUint64(high[:], binary.LittleEndian.Uint64([]byte(b[end:])))
		refuse(t, b[:end]+string(high[:]), api.ErrImageSum) // the highest first
		refuse(t, b[:end]+"\x00\x00\x00\x00\x00\x00\x00\x00", api.ErrImageSum)
		refuse(t, b[:end]+summed("")[:8], api.ErrImageSum)
		refuse(t, b[:end]+summed(b[9:end])[end-9:], api.ErrImageSum) // the beginning is summed too
		for i := end; i < len(b); i++ {
			refuse(t, turned(b, i, b[i]^0x80), api.ErrImageSum)
		}
	}
}

// zeroKey is the key of (0 x) by p, oneKey that of (1 x).
const (
	zeroKey = "\x12\x80\x23\xff\xfe"
	oneKey  = "\x12\x81\x01\x23\xff\xfe"
)

// TestLoadRight is P21.2: bodies that are right, next to those that are not.
func TestLoadRight(t *testing.T) {
	for _, body := range []string{
		bare(),
		bare(holding("p", pText)),
		bare(holding("p", pText, [2]string{zeroKey, ""})),
		bare(holding("p", pText, [2]string{zeroKey, "v"}, [2]string{oneKey, ""})),
		bare(holding("p", pText, [2]string{zeroKey, strings.Repeat("v", 65536)})),
		bare(holding("p", pText), holding("q", pText)),
		bare(holding("a0123456789-bcde", pText)),
		piece(someMarks) + piece(someEntries) + number(0),
		piece(someMarks) + piece("") + number(1) + holding("w", wText),
		piece("") + piece(someEntries) + number(1) + holding("w", wText, [2]string{"\x16\x22\x10\x00\x00\x00\x00\x20\x00\x00a\x00\x01", ""}),
	} {
		load(t, framed(body))
	}
	s := load(t, framed(bare(holding("p", pText, [2]string{zeroKey, "v"}, [2]string{oneKey, ""}))))
	if kept, is, err := s.Get("p", part(t, "(0 x)")); kept != "v" || !is || err != nil {
		t.Errorf("%q, %v, %s", kept, is, told(err))
	}
	if kept, is, err := s.Get("p", part(t, "(1 x)")); kept != "" || !is || err != nil {
		t.Errorf("%q, %v, %s", kept, is, told(err))
	}
}

// TestLoadForm is P21.2: bytes whose sum is right, and that are no space's image.
func TestLoadForm(t *testing.T) {
	zero, one := [2]string{zeroKey, "v"}, [2]string{oneKey, "v"}
	text := "\x16\x22\x10\x00\x00\x00\x00\x20\x00\x00a\x00\x01" // "a" by someEntries
	for name, body := range map[string]string{
		"nothing but noughts":                strings.Repeat("\x00", 13),
		"a byte left":                        bare() + "x",
		"a nought left":                      bare(holding("p", pText, zero)) + "\x00",
		"a schema left":                      bare() + holding("p", pText),
		"a row left":                         bare(holding("p", pText, zero)) + piece(oneKey) + piece("v"),
		"a whole body left":                  bare() + bare(),
		"marks longer than what is left":     number(9) + strings.Repeat("\x00", 8),
		"marks that take all":                number(8) + strings.Repeat("\n", 8),
		"entries longer":                     piece("") + number(5) + number(0),
		"entries that take the number":       piece("") + number(4) + number(0),
		"a name longer":                      piece("") + piece("") + number(1) + number(99) + "p" + piece(pText) + number(0),
		"a text longer":                      piece("") + piece("") + number(1) + piece("p") + number(len(pText)+5) + pText + number(0),
		"a text that takes the number":       piece("") + piece("") + number(1) + piece("p") + number(len(pText)+4) + pText + number(0),
		"a text shorter":                     piece("") + piece("") + number(1) + piece("p") + number(len(pText)-1) + pText + number(0),
		"a key longer":                       bare(piece("p") + piece(pText) + number(1) + number(10) + zeroKey + number(0)),
		"a key shorter":                      bare(piece("p") + piece(pText) + number(1) + number(4) + zeroKey + number(0)),
		"a value longer":                     bare(piece("p") + piece(pText) + number(1) + piece(zeroKey) + number(2) + "v"),
		"a value shorter":                    bare(piece("p") + piece(pText) + number(1) + piece(zeroKey) + number(1) + "vv"),
		"no value":                           bare(piece("p") + piece(pText) + number(1) + piece(zeroKey)),
		"one schema, and none":               piece("") + piece("") + number(1),
		"two schemas, and one":               piece("") + piece("") + number(2) + holding("p", pText),
		"no schemas, and one":                piece("") + piece("") + number(0) + holding("p", pText),
		"one row, and none":                  bare(piece("p") + piece(pText) + number(1)),
		"two rows, and one":                  bare(piece("p") + piece(pText) + number(2) + piece(zeroKey) + piece("")),
		"no rows, and one":                   bare(piece("p") + piece(pText) + number(0) + piece(zeroKey) + piece("")),
		"no number of rows":                  bare(piece("p") + piece(pText)),
		"half a number of rows":              bare(piece("p") + piece(pText) + "\x00\x00"),
		"no text":                            bare(piece("p")),
		"names that fall":                    bare(holding("q", pText), holding("p", pText)),
		"names that do not rise":             bare(holding("p", pText), holding("r", pText), holding("q", pText)),
		"a longer name ahead":                bare(holding("pa", pText), holding("p", pText)),
		"a name twice":                       bare(holding("p", pText), holding("p", pText)),
		"a name twice, of other schemas":     bare(holding("p", pText), holding("p", qText)),
		"keys that fall":                     bare(holding("p", pText, one, zero)),
		"a key twice":                        bare(holding("p", pText, zero, zero)),
		"a key twice, with another value":    bare(holding("p", pText, zero, [2]string{zeroKey, "w"})),
		"a name of no bytes":                 bare(holding("", pText)),
		"a great letter":                     bare(holding("P", pText)),
		"a digit first":                      bare(holding("1p", pText)),
		"a name of 17 bytes":                 bare(holding("a0123456789-bcdef", pText)),
		"a schema of no bytes":               bare(holding("p", "")),
		"a schema that is none":              bare(holding("p", "limit 64\nfield a\n")),
		"a schema without fields":            bare(holding("p", "limit 64\n")),
		"a limit that may not be":            bare(holding("p", "limit 0\nfield a int\n")),
		"a schema without its last feed":     bare(holding("p", strings.TrimSuffix(pText, "\n"))),
		"a schema with a feed more":          bare(holding("p", pText+"\n")),
		"a schema with a remark":             bare(holding("p", pText+"# p\n")),
		"a schema with a blank more":         bare(holding("p", "limit 64\nfield  a int\n")),
		"a schema with a blank behind":       bare(holding("p", "limit 64\nfield a int \n")),
		"a schema that does not stand in":    bare(holding("p", "limit 64\nfield t tuple\nfield a int\nend\n")),
		"a schema that stands too far in":    bare(holding("p", "limit 64\n  field a int\n")),
		"a schema that is too long":          bare(holding("p", pText+strings.Repeat("\n", 65537-len(pText)))),
		"a key of no bytes":                  bare(holding("p", pText, [2]string{"", "v"})),
		"no key":                             bare(holding("p", pText, [2]string{zeroKey + "\x00", "v"})),
		"a key cut off":                      bare(holding("p", pText, [2]string{zeroKey[:4], "v"})),
		"another schema's key":               bare(holding("p", pText, [2]string{"\x13\x00\x01\x12\x80", "v"})),
		"a key longer than the limit":        bare(holding("p", "limit 4\nfield a int\nfield b bytes down most 8\n", zero)),
		"a key out of bounds":                bare(holding("p", "limit 64\nfield a int from 1 to 2\nfield b bytes down most 8\n", zero)),
		"a wrong row behind a right one":     bare(holding("p", pText, zero, [2]string{oneKey + "\x00", "v"})),
		"a value of 65537 bytes":             bare(holding("p", pText, [2]string{zeroKey, strings.Repeat("v", 65537)})),
		"wrong marks":                        piece("x") + piece("") + number(0),
		"marks that lead to themselves":      piece("0041;0;0041") + piece("") + number(0),
		"wrong entries":                      piece("") + piece("x") + number(0),
		"entries that weigh what may not be": piece("") + piece("0061;[.FB40.0020.0002]") + number(0),
		"marks as entries":                   piece(someEntries) + piece(someMarks) + number(0),
		"marks with a feed behind":           piece(someMarks+"\n") + piece("") + number(0),
		"marks with a remark":                piece("# marks\n"+someMarks) + piece("") + number(0),
		"marks that fall":                    piece("0301;230;\n00E1;0;0061 0301") + piece("") + number(0),
		"marks of a mere feed":               piece("\n") + piece("") + number(0),
		"marks that are too long":            piece(strings.Repeat("\n", 65537)) + piece("") + number(0),
		"entries with a feed behind":         piece("") + piece(someEntries+"\n") + number(0),
		"entries with a remark":              piece("") + piece(someEntries+"\n#") + number(0),
		"entries that fall":                  piece("") + piece("0061;[.1000.0020.0002]\n0041;[.1000.0020.0008]") + number(0),
		"entries that are too long":          piece("") + piece(strings.Repeat("\n", 65537)) + number(0),
		"a text by no tables":                bare(holding("w", wText, [2]string{text, ""})),
		"a text by other tables":             piece("") + piece("0061;[.2000.0020.0002]") + number(1) + holding("w", wText, [2]string{text, ""}),
		"a number with its highest first":    piece("") + piece("") + "\x00\x00\x00\x01" + holding("p", pText),
	} {
		b := framed(body)
		if s, e := image.Load(b); s != nil || e != api.ErrImageForm {
			t.Errorf("%s: %v, %d", name, s, e)
		}
		if len(b) >= 29 {
			refuse(t, turned(b, len(b)-1, b[len(b)-1]^1), api.ErrImageSum)
		}
	}
}

// numbers are where the numbers of a body stand: the places and what they say, as the chapter has them one behind the other.
func numbers(b string) []int {
	at, places := 9, []int{}
	take := func() int {
		n := int(binary.LittleEndian.Uint32([]byte(b[at:])))
		places = append(places, at)
		at += 4
		return n
	}
	piece := func() { n := take(); at += n }
	piece()
	piece()
	for range take() {
		piece()
		piece()
		for range take() {
			piece()
			piece()
		}
	}
	return places
}

// TestLoadNumbers is P21.2: each number of an image, as any other one that counts, with a right sum. What is greater than what is left can hold is given up as soon as that is at its end.
func TestLoadNumbers(t *testing.T) {
	b := save(t, made(t))
	end := len(b) - 8
	places := numbers(b)
	if len(places) != 2+1+3*3+6*2 {
		t.Fatalf("%d numbers", len(places))
	}
	for _, at := range places {
		is := int(binary.LittleEndian.Uint32([]byte(b[at:])))
		for _, n := range []int{0, 1, is - 1, is + 1, is + 2, is + 4, is + 256, is + 65536, is + 1<<24, is + 1<<31, len(b), end - at, end - at - 4, end - at - 3, 1<<31 - 1, 1 << 31, 1<<31 + 1, 1<<32 - 4, 1<<32 - 1} {
			if n >= 0 && n != is {
				refuse(t, summed(b[:at]+number(n)+b[at+4:end]), api.ErrImageForm)
			}
		}
	}
}

// TestLoadRoom is P21.2: what a number says that can not be is not made room for.
func TestLoadRoom(t *testing.T) {
	most := number(1<<32 - 1)
	for _, body := range []string{most + bare(), piece("") + most + number(0), piece("") + piece("") + most, bare(most), bare(piece("p") + most), bare(piece("p") + piece(pText) + most), bare(piece("p") + piece(pText) + number(1) + most), bare(piece("p") + piece(pText) + number(1) + piece(zeroKey) + most)} {
		var before, after runtime.MemStats
		runtime.ReadMemStats(&before)
		refuse(t, framed(body), api.ErrImageForm)
		runtime.ReadMemStats(&after)
		if room := after.TotalAlloc - before.TotalAlloc; room > 1<<24 {
			t.Errorf("%s: %d bytes", brief(body), room)
		}
	}
}
