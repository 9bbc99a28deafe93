package compat_test

import (
	"math/big"
	"strings"
	"testing"

	"dovetail/api"
)

// sized is a number whose magnitude has so many bytes, 01 first, then noughts: the one next to 0 of its size; n below 0: below 0.
func sized(n int) api.Num {
	if n == 0 {
		return api.Num{}
	}
	if n < 0 {
		return api.Num{Below: true, Mag: sized(-n).Mag}
	}
	return api.Num{Mag: "\x01" + strings.Repeat("\x00", n-1)}
}

// full is the one of that size that is farthest from 0.
func full(n int) api.Num {
	if n < 0 {
		return api.Num{Below: true, Mag: strings.Repeat("\xff", -n)}
	}
	return api.Num{Mag: strings.Repeat("\xff", n)}
}

// TestLeastNumber is P17.2: an Int that is not asked has its shortest number: 0, if that lies within, else the bound next to it.
func TestLeastNumber(t *testing.T) {
	for _, c := range []struct {
		f    api.Field
		size int // with the tag
	}{
		{is(api.Int), 2},
		{bounded(num(0), num(0)), 2}, {bounded(num(-300), num(300)), 2}, {bounded(num(-70000), num(0)), 2}, {bounded(num(0), full(255)), 2}, {bounded(full(-255), full(255)), 2},
		{bounded(num(1), num(1)), 3}, {bounded(num(255), num(256)), 3}, {bounded(num(256), num(256)), 4}, {bounded(num(256), full(255)), 4},
		{bounded(num(-1), num(-1)), 3}, {bounded(full(-255), num(-1)), 3}, {bounded(num(-256), num(-255)), 3}, {bounded(full(-255), num(-256)), 4},
		{bounded(sized(126), full(126)), 128}, {bounded(sized(127), full(127)), 130}, {bounded(sized(255), full(255)), 258}, {bounded(full(255), full(255)), 258}, {bounded(full(126), full(127)), 128},
		{bounded(sized(-126), sized(-126)), 128}, {bounded(full(-255), sized(-127)), 130}, {bounded(full(-255), sized(-255)), 258}, {bounded(full(-255), full(-255)), 258},
	} {
		for _, f := range []api.Field{c.f, down(c.f)} {
			wantFrom(t, schemaOf(1, f), schemaOf(1, is(api.Bool)), c.size)
			wantFrom(t, schemaOf(1, f, is(api.Bool)), schemaOf(1, f, is(api.ID)), c.size+2)
			wantFrom(t, schemaOf(1, tupleOf(f), is(api.Bool)), schemaOf(1, tupleOf(f), is(api.ID)), c.size+4)
			wantFrom(t, schemaOf(1, nulls(api.NullFirst, f), is(api.Bool)), schemaOf(1, nulls(api.NullFirst, f), is(api.ID)), 3)
			wantFrom(t, schemaOf(1, nulls(api.NullFirst, f)), schemaOf(1, nulls(api.NullFirst, is(api.Bool))), c.size)
		}
	}
}

// TestNumbers is P17.1 and P17.2: the shortest number that the one field has, and the other one has not, if there is any.
func TestNumbers(t *testing.T) {
	all := is(api.Int)
	for _, c := range []struct {
		f, g api.Field
		size int // with the tag; 0: no number
	}{
		{all, all, 0}, {all, bounded(full(-255), full(255)), 0}, {bounded(full(-255), full(255)), all, 0}, {upTo(300), all, 0}, {upTo(300), upTo(300), 0}, {upTo(300), upTo(301), 0}, {bounded(num(5), num(9)), bounded(num(4), num(10)), 0},
		{upTo(300), upTo(299), 4}, {upTo(300), upTo(256), 4}, {upTo(300), upTo(255), 4}, {upTo(300), upTo(254), 3}, {upTo(300), upTo(0), 3}, {upTo(300), bounded(num(-300), num(-1)), 2},
		{upTo(300), bounded(num(1), num(300)), 2}, {bounded(num(1), num(300)), bounded(num(2), num(300)), 3}, {bounded(num(1), num(300)), bounded(num(256), num(299)), 3},
		{bounded(num(300), num(400)), bounded(num(301), num(400)), 4}, {bounded(num(300), num(400)), bounded(num(500), num(600)), 4}, {bounded(num(300), num(400)), upTo(3), 4},
		{bounded(num(-300), num(300)), bounded(num(-300), num(255)), 4}, {bounded(num(-300), num(300)), bounded(num(-255), num(255)), 4}, {bounded(num(-300), num(300)), bounded(num(-254), num(255)), 3}, {bounded(num(-300), num(300)), bounded(num(-300), num(-256)), 2}, {bounded(num(-300), num(300)), bounded(num(-300), num(-1)), 2}, {bounded(num(-300), num(300)), bounded(num(-300), num(0)), 3},
		{bounded(num(-300), num(-1)), bounded(num(-300), num(-2)), 3}, {bounded(num(-300), num(-1)), bounded(num(-255), num(-1)), 4}, {bounded(num(-300), num(-1)), bounded(num(-256), num(-1)), 4}, {bounded(num(-300), num(-1)), bounded(num(-254), num(-1)), 3}, {bounded(num(-300), num(-256)), upTo(9), 4}, {bounded(num(-300), num(-256)), bounded(num(-300), num(-257)), 4}, {bounded(num(-400), num(-300)), bounded(num(-600), num(-500)), 4},
		{all, upTo(255), 3}, {all, bounded(num(-255), num(255)), 4}, {all, bounded(num(0), full(255)), 3}, {all, bounded(full(-255), num(0)), 3}, {all, bounded(num(1), num(2)), 2}, {all, bounded(full(-255), full(254)), 258}, {all, bounded(full(-254), full(255)), 258}, {all, bounded(full(-126), full(126)), 130}, {all, bounded(full(-125), full(126)), 128}, {all, bounded(full(-126), full(125)), 128}, {all, bounded(sized(255), sized(255)), 2},
		{all, bounded(full(-255), minus(full(255), 1)), 258}, {all, bounded(minus(full(-255), -1), full(255)), 258}, {all, bounded(full(255), full(255)), 2}, {all, bounded(full(-255), full(-255)), 2}, {all, bounded(full(-255), sized(127)), 130},
		{bounded(sized(127), full(255)), bounded(sized(127), full(127)), 131}, {bounded(sized(200), full(255)), upTo(1), 203}, {bounded(full(-255), sized(-200)), bounded(num(-1), num(1)), 203}, {bounded(full(-255), full(-255)), bounded(minus(full(-255), -1), full(255)), 258}, {bounded(sized(126), sized(126)), bounded(minus(sized(126), -1), full(126)), 128},
	} {
		for _, p := range []pair{{c.f, c.g, c.size}, {down(c.f), down(c.g), c.size}, {nulls(api.NullLast, c.f), nulls(api.NullLast, c.g), c.size}, {c.f, nulls(api.NullFirst, c.g), c.size}} {
			wantPair(t, schemaOf(1, p.f), schemaOf(1, p.g), p, 0)
			wantPair(t, schemaOf(1, is(api.ID), down(tupleOf(p.f))), schemaOf(1, is(api.ID), down(tupleOf(p.g))), p, 19)
		}
	}
}

// minus is a number less so much.
func minus(n api.Num, by int64) api.Num {
	return numOf(new(big.Int).Sub(bigOf(n), big.NewInt(by)))
}

// TestBoundsAll is P17.1 and P17.2: all bounds about few numbers, held against one another, and against a count of all numbers.
func TestBoundsAll(t *testing.T) {
	few := []int64{-65536, -65535, -257, -256, -255, -1, 0, 1, 255, 256, 65535, 65536}
	var l [][2]int64
	for i, low := range few {
		for _, high := range few[i:] {
			l = append(l, [2]int64{low, high})
		}
	}
	for i, a := range l {
		for j, b := range l {
			if (i+j)%3 > 0 {
				continue
			}
			least := 0
			for n := range int64(65537) { // from 0 on, so that the first one is a shortest
				if outside(n, a, b) || outside(-n, a, b) {
					least = 2 + len(big.NewInt(n).Bytes())
					break
				}
			}
			s, to := schemaOf(1, bounded(num(a[0]), num(a[1]))), schemaOf(1, bounded(num(b[0]), num(b[1])))
			for limit := 1; limit <= 6; limit++ {
				s.Limit = limit
				to.Limit = 1 + (i+j+limit)%6
				want := fits
				if to.Limit < limit {
					want = short
				}
				if least > 0 && least <= limit {
					want = against
				}
				wantVerdict(t, s, to, want)
			}
		}
	}
}

// outside tells whether a number lies within the one and not within the other.
func outside(n int64, a, b [2]int64) bool {
	return a[0] <= n && n <= a[1] && (n < b[0] || n > b[1])
}
