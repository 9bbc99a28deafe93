package shelf

import (
	"math/rand"
	"strconv"
	"testing"
)

// heightOf is a tree's height, counted; it wants each node's to be known, and none of its two trees taller than the other by more than one.
func heightOf(t *testing.T, n *node) int {
	if n == nil {
		return 0
	}
	low, high := heightOf(t, n.low), heightOf(t, n.high)
	if low-high > 1 || high-low > 1 || n.tall != 1+max(low, high) {
		t.Fatalf("%q: %d and %d, told %d", n.pair.Key, low, high, n.tall)
	}
	return n.tall
}

// TestEven: however the keys come and go, the tree stays low, so that each call is quick.
func TestEven(t *testing.T) {
	r := rand.New(rand.NewSource(202))
	for _, next := range []func(i int) int{
		func(i int) int { return i },
		func(i int) int { return 5000 - i },
		func(i int) int { return 2500 + i*(1-i%2*2)/2 },
		func(i int) int { return r.Intn(5000) },
		func(i int) int { return r.Intn(50) * 100 },
	} {
		s := New()
		for i := range 5000 {
			s.Put(strconv.Itoa(100000+next(i)), "")
			if i%5 == 0 {
				s.Delete(strconv.Itoa(100000 + next(i/2)))
			}
			if i%97 == 0 {
				heightOf(t, s.top)
			}
		}
		for i := range 5000 {
			s.Delete(strconv.Itoa(100000 + next(i)))
			if i%97 == 0 {
				heightOf(t, s.top)
			}
		}
	}
}
