package nat

import (
	"cmp"
	"encoding/hex"
	"math"
	"math/big"
	"slices"
	"strings"
	"testing"

	"dovetail/api"
)

func raw(digits string) string {
	b, err := hex.DecodeString(digits)
	if err != nil {
		panic(err)
	}
	return string(b)
}

// m is a magnitude of n bytes, each 01.
func m(n int) string { return strings.Repeat("\x01", n) }

func up(digits string) api.Num   { return api.Num{Mag: raw(digits)} }
func down(digits string) api.Num { return api.Num{Below: true, Mag: raw(digits)} }

// bigOf is the number by the library's arithmetic.
func bigOf(n api.Num) *big.Int {
	x := new(big.Int).SetBytes([]byte(n.Mag))
	if n.Below {
		x.Neg(x)
	}
	return x
}

func numOf(x *big.Int) api.Num { return api.Num{Below: x.Sign() < 0, Mag: string(x.Bytes())} }

// sizes are those at which the first bytes change, and those next to them.
func sizes() []int { return []int{1, 2, 3, 7, 8, 9, 125, 126, 127, 128, 129, 254, 255} }

// numbers are rising: of each of the sizes the least, the greatest and some between them, above 0 and below 0, and 0.
func numbers() []api.Num {
	var mags []string
	for _, n := range sizes() {
		mags = append(mags,
			"\x01"+strings.Repeat("\x00", n-1), m(n), strings.Repeat("\x7f", n), "\x80"+strings.Repeat("\x00", n-1),
			"\xfe"+strings.Repeat("\xff", n-1), strings.Repeat("\xff", n))
		if n > 1 {
			mags = append(mags, "\x01"+strings.Repeat("\x00", n-2)+"\x01", "\xff"+strings.Repeat("\x00", n-1), strings.Repeat("\xff", n-1)+"\xfe")
		}
	}
	all := []api.Num{{}}
	for _, mag := range mags {
		all = append(all, api.Num{Mag: mag}, api.Num{Below: true, Mag: mag})
	}
	slices.SortFunc(all, func(a, b api.Num) int { return bigOf(a).Cmp(bigOf(b)) })
	return slices.CompactFunc(all, func(a, b api.Num) bool { return bigOf(a).Cmp(bigOf(b)) == 0 })
}

// ints are those at which the number of bytes changes, and those next to them.
func ints() []int {
	all := []int{0, math.MinInt, math.MaxInt, math.MinInt + 1, math.MaxInt - 1}
	for shift := range 63 {
		for _, d := range []int{-1, 0, 1} {
			all = append(all, 1<<shift+d, -(1<<shift)+d)
		}
	}
	for i := -1000; i <= 1000; i++ {
		all = append(all, i)
	}
	slices.Sort(all)
	return slices.Compact(all)
}

// wrong are numbers that may not be, with the error of each.
func wrong() []struct {
	n    api.Num
	want api.Errno
} {
	return []struct {
		n    api.Num
		want api.Errno
	}{
		{up("00"), api.ErrNatForm},
		{down("00"), api.ErrNatForm},
		{down(""), api.ErrNatForm},
		{up("0001"), api.ErrNatForm},
		{down("0001"), api.ErrNatForm},
		{api.Num{Mag: "\x00" + m(254)}, api.ErrNatForm},
		{api.Num{Mag: m(256)}, api.ErrNatLong},
		{api.Num{Below: true, Mag: m(256)}, api.ErrNatLong},
		{api.Num{Mag: "\x00" + m(255)}, api.ErrNatLong},
		{api.Num{Below: true, Mag: "\x00" + m(255)}, api.ErrNatLong},
		{api.Num{Mag: m(1 << 20)}, api.ErrNatLong},
		{api.Num{Mag: strings.Repeat("\x00", 1<<20)}, api.ErrNatLong},
	}
}

// P2.1

func TestCheck(t *testing.T) {
	for _, x := range wrong() {
		if e := Check(x.n); e != x.want {
			t.Errorf("Check of %d bytes, below %v = %d, not %d", len(x.n.Mag), x.n.Below, e, x.want)
		}
	}
	for _, n := range append(numbers(), up("0100"), down("0100"), down("01")) {
		if e := Check(n); e != api.OK {
			t.Errorf("Check(%x, %v) = %d", n.Mag, n.Below, e)
		}
	}
}

// P2.2

func TestOf(t *testing.T) {
	for _, x := range []struct {
		i    int
		want api.Num
	}{
		{0, up("")}, {1, up("01")}, {-1, down("01")}, {255, up("ff")}, {256, up("0100")}, {-256, down("0100")}, {-255, down("ff")},
		{65536, up("010000")}, {math.MinInt, down("8000000000000000")}, {math.MaxInt, up("7fffffffffffffff")}, {math.MinInt + 1, down("7fffffffffffffff")},
	} {
		if got := Of(x.i); got != x.want {
			t.Errorf("Of(%d) = %x, %v", x.i, got.Mag, got.Below)
		}
	}
	for _, i := range ints() {
		if got, want := Of(i), numOf(big.NewInt(int64(i))); got != want {
			t.Fatalf("Of(%d) = %x, %v", i, got.Mag, got.Below)
		}
	}
}

func TestSmall(t *testing.T) {
	for _, x := range []struct {
		n    api.Num
		want int
		is   bool
	}{
		{up(""), 0, true}, {up("7fffffffffffffff"), math.MaxInt, true}, {down("8000000000000000"), math.MinInt, true}, {down("7fffffffffffffff"), math.MinInt + 1, true},
		{up("0100000000000000"), 1 << 56, true}, {down("0100"), -256, true},
		{up("8000000000000000"), 0, false}, {down("8000000000000001"), 0, false}, {up("ffffffffffffffff"), 0, false}, {down("ffffffffffffffff"), 0, false},
		{up("010000000000000000"), 0, false}, {down("010000000000000000"), 0, false}, {up("010000000000000001"), 0, false}, {down("018000000000000000"), 0, false},
		{up("00"), 0, false}, {down(""), 0, false}, {down("00"), 0, false}, {up("0001"), 0, false}, {up("000000000000000001"), 0, false},
		{api.Num{Mag: m(255)}, 0, false}, {api.Num{Mag: m(256)}, 0, false},
	} {
		if got, is := Small(x.n); got != x.want || is != x.is {
			t.Errorf("Small(%x, %v) = %d, %v", x.n.Mag, x.n.Below, got, is)
		}
	}
	for _, n := range numbers() {
		want := bigOf(n)
		got, is := Small(n)
		if is != want.IsInt64() || is && int64(got) != want.Int64() || !is && got != 0 {
			t.Errorf("Small(%x, %v) = %d, %v", n.Mag, n.Below, got, is)
		}
	}
}

// P2.3

func TestCompare(t *testing.T) {
	for _, x := range [][3]int{{-256, -255, -1}, {0, -1, 1}, {255, 256, -1}, {0, 0, 0}, {-1, 0, -1}, {-1, 1, -1}, {1, -1, 1}, {0, 1, -1}, {-256, -256, 0}, {256, 255, 1}, {-255, -256, 1}, {256, 511, -1}} {
		if got, e := Compare(Of(x[0]), Of(x[1])); got != x[2] || e != api.OK {
			t.Errorf("Compare(%d, %d) = %d, %d", x[0], x[1], got, e)
		}
	}
	all := numbers()
	for i, a := range all {
		for k, b := range all {
			if got, e := Compare(a, b); got != cmp.Compare(i, k) || e != api.OK {
				t.Fatalf("Compare(%x %v, %x %v) = %d, %d", a.Mag, a.Below, b.Mag, b.Below, got, e)
			}
		}
	}
}

func TestCompareOfWrongNumbers(t *testing.T) {
	for _, x := range wrong() {
		if got, e := Compare(x.n, Of(1)); got != 0 || e != x.want {
			t.Errorf("Compare of a wrong one and 1 = %d, %d, not %d", got, e, x.want)
		}
		if got, e := Compare(Of(-1), x.n); got != 0 || e != x.want {
			t.Errorf("Compare of -1 and a wrong one = %d, %d, not %d", got, e, x.want)
		}
		for _, y := range wrong() {
			if got, e := Compare(x.n, y.n); got != 0 || e != x.want {
				t.Errorf("Compare of two wrong ones = %d, %d, not the first one's %d", got, e, x.want)
			}
		}
	}
}

// P2.4

func TestParse(t *testing.T) {
	for _, x := range []struct {
		s    string
		want api.Num
	}{
		{"0", up("")}, {"-12", down("0c")}, {"256", up("0100")}, {"1", up("01")}, {"-1", down("01")}, {"10", up("0a")}, {"100000000", up("05f5e100")}, {"1000000000", up("3b9aca00")},
		{"18446744073709551616", up("010000000000000000")}, {"-18446744073709551615", down("ffffffffffffffff")},
	} {
		if got, e := Parse(x.s); got != x.want || e != api.OK {
			t.Errorf("Parse(%s) = %x, %v, %d", x.s, got.Mag, got.Below, e)
		}
	}
}

func TestParseOfWhatIsNoNumber(t *testing.T) {
	long := strings.Repeat("1", 5000)
	for _, s := range []string{
		"-0", "007", "+1", "", "-", "1 ", " 1", "00", "-00", "-01", "--1", "1-", "-1-", "0x1", "1_0", "1.0", "1e3", "a", "1a", "/", ":", "1/", "1:", "-/", "\x00", "1\x00", "\xb9", "\u0661", "1\n",
		long + "a", "0" + long, "-0" + long, "-" + long + "-", "a" + long, long + " ", "+" + long,
	} {
		if n, e := Parse(s); n != (api.Num{}) || e != api.ErrNatForm {
			t.Errorf("Parse of %.20q, %d bytes = %x, %v, %d", s, len(s), n.Mag, n.Below, e)
		}
	}
	for c := range 256 {
		digit := c >= '0' && c <= '9'
		if _, e := Parse("1" + string([]byte{byte(c)})); (e == api.OK) != digit {
			t.Errorf("Parse of 1 and %02x: %d", c, e)
		}
	}
}

func TestParseOfManyDigits(t *testing.T) {
	edge := new(big.Int).Lsh(big.NewInt(1), 8*api.MaxMag)
	greatest := new(big.Int).Sub(edge, big.NewInt(1))
	for _, sign := range []string{"", "-"} {
		n, e := Parse(sign + greatest.String())
		if n != (api.Num{Below: sign != "", Mag: strings.Repeat("\xff", 255)}) || e != api.OK {
			t.Errorf("%s256^255-1: %d bytes, %d", sign, len(n.Mag), e)
		}
		for _, s := range []string{edge.String(), "1" + strings.Repeat("0", 615), "9" + strings.Repeat("9", 614), strings.Repeat("9", 616), strings.Repeat("1", 1<<20)} {
			if n, e := Parse(sign + s); n != (api.Num{}) || e != api.ErrNatLong {
				t.Errorf("%d digits: %d bytes, %d", len(s), len(n.Mag), e)
			}
		}
		if n, e := Parse(sign + "1" + strings.Repeat("0", 600)); len(n.Mag) != 250 || e != api.OK {
			t.Errorf("10^600: %d bytes, %d", len(n.Mag), e)
		}
	}
}

func TestParseOfEachNumberOfDigits(t *testing.T) {
	for n := 1; n <= 614; n++ {
		for _, s := range []string{"1" + strings.Repeat("0", n-1), strings.Repeat("9", n), strings.Repeat("1234567890", n)[:n], "-" + strings.Repeat("9081726354", n)[:n]} {
			x, _ := new(big.Int).SetString(s, 10)
			got, e := Parse(s)
			if got != numOf(x) || e != api.OK {
				t.Fatalf("Parse of %s = %x, %v, %d", s, got.Mag, got.Below, e)
			}
			if back, e := Print(got); back != s || e != api.OK {
				t.Fatalf("Print of %s = %s, %d", s, back, e)
			}
		}
	}
}

func TestPrint(t *testing.T) {
	for _, n := range numbers() {
		if got, e := Print(n); got != bigOf(n).String() || e != api.OK {
			t.Errorf("Print(%x, %v) = %s, %d", n.Mag, n.Below, got, e)
		}
	}
	for _, x := range wrong() {
		if got, e := Print(x.n); got != "" || e != x.want {
			t.Errorf("Print of a wrong one = %q, %d, not %d", got, e, x.want)
		}
	}
}

// P2.5

func TestPut(t *testing.T) {
	for _, x := range []struct {
		i    int
		want string
	}{{0, "80"}, {1, "8101"}, {255, "81ff"}, {256, "820100"}, {300, "82012c"}, {-1, "7ffe"}, {-255, "7f00"}, {-256, "7efeff"}, {math.MinInt, "787fffffffffffffff"}} {
		if got, e := Put(Of(x.i)); got != raw(x.want) || e != api.OK {
			t.Errorf("Put(%d) = %x, %d", x.i, got, e)
		}
	}
	for _, x := range []struct {
		size      int
		upper, to string
	}{{1, "81", "7f"}, {125, "fd", "03"}, {126, "fe", "02"}, {127, "ff7f", "0180"}, {128, "ff80", "017f"}, {254, "fffe", "0101"}, {255, "ffff", "0100"}} {
		if got, e := Put(api.Num{Mag: m(x.size)}); got != raw(x.upper)+m(x.size) || e != api.OK {
			t.Errorf("Put of %d bytes = %x, %d", x.size, got, e)
		}
		if got, e := Put(api.Num{Below: true, Mag: m(x.size)}); got != raw(x.to)+strings.Repeat("\xfe", x.size) || e != api.OK {
			t.Errorf("Put of %d bytes below 0 = %x, %d", x.size, got, e)
		}
	}
	for _, x := range wrong() {
		if got, e := Put(x.n); got != "" || e != x.want {
			t.Errorf("Put of a wrong one = %x, %d, not %d", got, e, x.want)
		}
	}
}

// P2.6

func TestTakeExamples(t *testing.T) {
	for _, x := range []struct {
		s    string
		at   int
		want int
		end  int
		e    api.Errno
	}{
		{"8101ff", 0, 1, 2, api.OK}, {"617ffe", 1, -1, 3, api.OK}, {"80", 0, 0, 1, api.OK}, {"8080", 1, 0, 2, api.OK}, {"820100", 0, 256, 3, api.OK}, {"7efeff00", 0, -256, 3, api.OK},
		{"", 0, 0, 0, api.ErrNatForm}, {"8201", 0, 0, 2, api.ErrNatForm}, {"8200", 0, 0, 1, api.ErrNatForm}, {"7fff", 0, 0, 1, api.ErrNatForm}, {"00", 0, 0, 0, api.ErrNatForm},
		{"ff7e", 0, 0, 1, api.ErrNatForm}, {"0181", 0, 0, 1, api.ErrNatForm}, {"ff", 0, 0, 1, api.ErrNatForm}, {"01", 0, 0, 1, api.ErrNatForm}, {"ff7f00", 0, 0, 2, api.ErrNatForm}, {"0180ff", 0, 0, 2, api.ErrNatForm},
		{"ff7f", 0, 0, 2, api.ErrNatForm}, {"0180", 0, 0, 2, api.ErrNatForm}, {"81", 0, 0, 1, api.ErrNatForm}, {"7f", 0, 0, 1, api.ErrNatForm}, {"80", 1, 0, 1, api.ErrNatForm}, {"808200", 1, 0, 2, api.ErrNatForm},
		{"ff7e01", 0, 0, 1, api.ErrNatForm}, {"ff7f01", 0, 0, 3, api.ErrNatForm}, {"7e00", 0, 0, 2, api.ErrNatForm}, {"ff00", 0, 0, 1, api.ErrNatForm}, {"01ff", 0, 0, 1, api.ErrNatForm},
		{"80", -1, 0, 0, api.ErrArg}, {"80", 2, 0, 0, api.ErrArg}, {"", 1, 0, 0, api.ErrArg}, {"", -1, 0, 0, api.ErrArg}, {"00", 2, 0, 0, api.ErrArg}, {"8080", math.MinInt, 0, 0, api.ErrArg}, {"8080", math.MaxInt, 0, 0, api.ErrArg},
	} {
		n, end, e := Take(raw(x.s), x.at)
		if n != Of(x.want) || end != x.end || e != x.e {
			t.Errorf("Take(%s, %d) = %x %v, %d, %d", x.s, x.at, n.Mag, n.Below, end, e)
		}
	}
}

// heads are what stands ahead of a magnitude, by how many bytes it has, as the chapter writes it.
func heads(below bool) [256]string {
	var all [256]string
	for n := range 256 {
		switch {
		case !below && n <= 126:
			all[n] = string([]byte{byte(0x80 + n)})
		case !below:
			all[n] = string([]byte{0xff, byte(n)})
		case n >= 1 && n <= 126:
			all[n] = string([]byte{byte(0x80 - n)})
		case n >= 1:
			all[n] = string([]byte{0x01, byte(0xff - n)})
		}
	}
	return all
}

// goesOn tells by trying all sizes whether some number's bytes begin with s.
func goesOn(s string) bool {
	for _, below := range []bool{false, true} {
		none := byte(0x00)
		if below {
			none = 0xff
		}
		for n, head := range heads(below) {
			switch {
			case head == "":
			case strings.HasPrefix(head, s):
				return true
			case !strings.HasPrefix(s, head):
			case len(s)-len(head) <= n && s[len(head)] != none:
				return true
			}
		}
	}
	return false
}

// breaksOff is the first byte at which no number's bytes go on as s does.
func breaksOff(s string) int {
	for n := range len(s) {
		if !goesOn(s[:n+1]) {
			return n
		}
	}
	return len(s)
}

// stands is the number whose bytes s begins with, found by trying all sizes.
func stands(s string) (api.Num, int, bool) {
	for _, below := range []bool{false, true} {
		for n, head := range heads(below) {
			end := len(head) + n
			if head == "" || !strings.HasPrefix(s, head) || len(s) < end || !goesOn(s[:end]) {
				continue
			}
			mag := []byte(s[len(head):end])
			for i := range mag {
				if below {
					mag[i] = 0xff - mag[i]
				}
			}
			return api.Num{Below: below, Mag: string(mag)}, end, true
		}
	}
	return api.Num{}, 0, false
}

func wantTake(t *testing.T, ahead, s string) {
	t.Helper()
	want, end, is := stands(s)
	wantError := api.OK
	if !is {
		end, wantError = breaksOff(s), api.ErrNatForm
	}
	n, got, e := Take(ahead+s, len(ahead))
	if n != want || got != len(ahead)+end || e != wantError {
		t.Fatalf("Take(%x, %d) = %x %v, %d, %d, not %d, %d", ahead+s, len(ahead), n.Mag, n.Below, got, e, len(ahead)+end, wantError)
	}
}

func TestTakeOfEveryBeginning(t *testing.T) {
	edges := []byte{0x00, 0x01, 0x02, 0x7e, 0x7f, 0x80, 0x81, 0x82, 0xfe, 0xff}
	for a := range 256 {
		wantTake(t, "", string([]byte{byte(a)}))
		for _, b := range edges {
			wantTake(t, "\x00", string([]byte{byte(a), b}))
			for _, c := range edges {
				wantTake(t, "\xff", string([]byte{byte(a), b, c}))
			}
		}
	}
	for b := range 256 {
		for _, a := range []byte{0x01, 0x7f, 0x81, 0xff} {
			wantTake(t, "ab", string([]byte{a, byte(b)}))
		}
	}
}

func TestTakeOfLongNumbers(t *testing.T) {
	for _, below := range []bool{false, true} {
		for n, head := range heads(below) {
			if head == "" {
				continue
			}
			for _, d := range []int{-1, 0, 1} {
				for _, c := range []string{"\x00", "\x01", "\x80", "\xfe", "\xff"} {
					wantTake(t, "x", head+strings.Repeat(c, max(n+d, 0)))
				}
			}
		}
	}
}

func TestTakeOfEachBeginningOfANumber(t *testing.T) {
	for _, n := range numbers() {
		s, _ := Put(n)
		for k := range len(s) {
			if got, end, e := Take(s[:k], 0); got != (api.Num{}) || end != k || e != api.ErrNatForm {
				t.Fatalf("Take(%x, 0) = %x, %d, %d", s[:k], got.Mag, end, e)
			}
		}
	}
}

// P2.7

func TestThereAndBack(t *testing.T) {
	all := numbers()
	for _, i := range ints() {
		all = append(all, Of(i))
	}
	for _, n := range all {
		digits, _ := Print(n)
		if got, e := Parse(digits); got != n || e != api.OK {
			t.Errorf("Parse(%s) = %x, %v, %d", digits, got.Mag, got.Below, e)
		}
		s, _ := Put(n)
		for _, behind := range []string{"", "\x00", "\x01", "\x7f", "\x80", "\x81", "\xfe", "\xff", "\xff\xff", m(300)} {
			if got, end, e := Take(s+behind, 0); got != n || end != len(s) || e != api.OK {
				t.Errorf("Take(%x, 0) = %x, %v, %d, %d", s+behind, got.Mag, got.Below, end, e)
			}
			if got, end, e := Take(behind+s, len(behind)); got != n || end != len(behind)+len(s) || e != api.OK {
				t.Errorf("Take(%x, %d) = %x, %v, %d, %d", behind+s, len(behind), got.Mag, got.Below, end, e)
			}
		}
	}
}

func TestNoNumbersBytesBeginAnothers(t *testing.T) {
	all := numbers()
	for _, a := range all {
		for _, b := range all {
			left, _ := Put(a)
			right, _ := Put(b)
			if a != b && strings.HasPrefix(right, left) {
				t.Fatalf("%x begins %x", left, right)
			}
		}
	}
}

// P2.8

func TestBytesKeepTheOrder(t *testing.T) {
	var puts []string
	for _, n := range numbers() {
		s, e := Put(n)
		if e != api.OK {
			t.Fatalf("Put(%x, %v): %d", n.Mag, n.Below, e)
		}
		puts = append(puts, s)
	}
	behind := []string{"", "\x00", "\x80", "\xff\xff"}
	for i, a := range puts {
		for k, b := range puts {
			if i == k {
				continue
			}
			for _, x := range behind {
				for _, y := range behind {
					if got := strings.Compare(a+x, b+y); got != cmp.Compare(i, k) {
						t.Fatalf("%x and %x stand %d", a+x, b+y, got)
					}
				}
			}
		}
	}
}

func TestBytesOfIntsKeepTheOrder(t *testing.T) {
	last := ""
	for _, i := range ints() {
		s, e := Put(Of(i))
		if e != api.OK || strings.Compare(last, s) >= 0 {
			t.Fatalf("Put(%d) = %x, %d, behind %x", i, s, e, last)
		}
		last = s
	}
}

// P2.9

func TestSmallOfOf(t *testing.T) {
	all := ints()
	for _, i := range all {
		if got, is := Small(Of(i)); got != i || !is {
			t.Fatalf("Small of Of(%d) = %d, %v", i, got, is)
		}
	}
	for _, i := range all {
		for _, k := range all {
			if got, e := Compare(Of(i), Of(k)); got != cmp.Compare(i, k) || e != api.OK {
				t.Fatalf("Compare of Of(%d) and Of(%d) = %d, %d", i, k, got, e)
			}
		}
	}
}
