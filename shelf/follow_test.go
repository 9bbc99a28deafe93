package shelf_test

import (
	"math/rand"
	"slices"
	"strconv"
	"testing"

	"dovetail/api"
	"dovetail/shelf"
	"dovetail/span"
)

// deed is one call that changes a shelf.
type deed struct {
	key, value string
	gone       bool
}

func (d deed) do(s *shelf.Shelf) {
	if d.gone {
		s.Delete(d.key)
	} else {
		s.Put(d.key, d.value)
	}
}

// TestLast is P19.5: of each key the last deed says what there is; in whatever order deeds of different keys come.
func TestLast(t *testing.T) {
	r := rand.New(rand.NewSource(196))
	for range 100 {
		var deeds []deed
		last := map[string]deed{}
		for i := range r.Intn(150) {
			d := deed{someKey(r, 2), strconv.Itoa(i), r.Intn(3) == 0}
			deeds = append(deeds, d)
			last[d.key] = d
		}
		var want []api.Pair
		for _, d := range last {
			if !d.gone {
				want = append(want, api.Pair{Key: d.key, Value: d.value})
			}
		}
		slices.SortFunc(want, func(a, b api.Pair) int {
			if ahead(a.Key, b.Key) {
				return -1
			}
			return 1
		})
		for range 5 {
			s := shelf.New()
			for _, d := range deeds {
				d.do(s)
			}
			wantPairs(t, s.Scan(all(), false), want)
			if s.Len() != len(want) {
				t.Fatalf("Len: %d, not %d", s.Len(), len(want))
			}
			r.Shuffle(len(deeds), func(i, j int) { deeds[i], deeds[j] = deeds[j], deeds[i] })
			ownOrder(deeds)
		}
	}
}

// ownOrder lets a key's own deeds change places with one another, so that they come as they were made.
func ownOrder(deeds []deed) {
	places := map[string][]int{}
	own := map[string][]deed{}
	for i, d := range deeds {
		places[d.key] = append(places[d.key], i)
		own[d.key] = append(own[d.key], d)
	}
	for key, l := range own {
		slices.SortFunc(l, func(a, b deed) int {
			x, _ := strconv.Atoi(a.value)
			y, _ := strconv.Atoi(b.value)
			return x - y
		})
		for i, at := range places[key] {
			deeds[at] = l[i]
		}
	}
}

// TestLastMany is P19.5: the same keys in several orders, some put over and some deleted on the way, are the same shelf.
func TestLastMany(t *testing.T) {
	r := rand.New(rand.NewSource(197))
	const n = 3000
	var first []api.Pair
	for range 5 {
		s := shelf.New()
		for _, k := range r.Perm(n) {
			s.Put(number(k), "old")
		}
		for _, k := range r.Perm(n) {
			s.Put(number(k), strconv.Itoa(k))
			if k%3 == 0 {
				s.Delete(number(k))
			}
		}
		told := listed(s.Scan(all(), false))
		if first == nil {
			first = told
		}
		if !slices.Equal(told, first) || len(told) != n-n/3 {
			t.Fatalf("%d told", len(told))
		}
	}
}

// shelves are some with keys at random.
func shelves(r *rand.Rand, n int, t *testing.T) []both {
	l := []both{newBoth(t), bothOf(t, ""), bothOf(t, edges()...)}
	for range n {
		b := newBoth(t)
		for i := range r.Intn(50) {
			b.put(someKey(r, 3), strconv.Itoa(i))
			if r.Intn(3) == 0 {
				b.delete(someKey(r, 2))
			}
		}
		l = append(l, b)
	}
	return l
}

// TestLenScan is P19.5: Len is how many Scan tells of {Open}.
func TestLenScan(t *testing.T) {
	r := rand.New(rand.NewSource(198))
	for _, b := range shelves(r, 300, t) {
		for range 5 {
			if n := len(listed(b.s.Scan(api.Span{Open: true}, false))); n != b.s.Len() {
				t.Fatalf("Len: %d; told %d", b.s.Len(), n)
			}
			b.put(someKey(r, 2), "")
		}
	}
}

// TestBack is P19.5: back is the same turned round.
func TestBack(t *testing.T) {
	r := rand.New(rand.NewSource(199))
	l := spans([]string{"", "\x00", "\x00\xff", "a", "a\x00", "z\xff", "\xff", "\xff\xff\xff\xff"})
	for _, b := range shelves(r, 60, t) {
		for _, a := range l {
			back := listed(b.s.Scan(a, true))
			slices.Reverse(back)
			wantPairs(t, b.s.Scan(a, false), back)
		}
	}
}

// TestMeet is P19.5: of two spans that meet nowhere no pair is told twice; else those that stand in what they have in common are.
func TestMeet(t *testing.T) {
	r := rand.New(rand.NewSource(200))
	l := spans([]string{"", "\x00", "a", "a\x00", "z", "\xff"})
	apart := 0
	for _, b := range shelves(r, 10, t) {
		for _, one := range l {
			for _, two := range l {
				common := span.Meet(one, two)
				if span.Empty(common) {
					apart++
				}
				told := map[api.Pair]int{}
				for p := range b.s.Scan(one, false) {
					told[p]++
				}
				for p := range b.s.Scan(two, true) {
					told[p]++
				}
				for p, n := range told {
					if (n == 2) != span.Has(common, p.Key) || n > 2 || n == 2 && span.Empty(common) {
						t.Fatalf("%s, %s: %q is told %d times", ends(one), ends(two), p, n)
					}
				}
			}
		}
	}
	if apart < 1000 {
		t.Errorf("%d spans apart", apart)
	}
}

// TestParted is P19.5: of a span that is parted at a key all are told, once: first those of the one, then those of the other.
func TestParted(t *testing.T) {
	r := rand.New(rand.NewSource(201))
	places := []string{"", "\x00", "\x00\x00", "a", "a\x00", "a\xff", "z", "\x80", "\xff", "\xff\xff"}
	for _, b := range shelves(r, 40, t) {
		for _, a := range spans(places) {
			for _, at := range places {
				if ahead(at, a.From) || !a.Open && ahead(a.To, at) {
					continue
				}
				low, high := api.Span{From: a.From, To: at}, api.Span{From: at, To: a.To, Open: a.Open}
				wantPairs(t, b.s.Scan(a, false), append(listed(b.s.Scan(low, false)), listed(b.s.Scan(high, false))...))
				wantPairs(t, b.s.Scan(a, true), append(listed(b.s.Scan(high, true)), listed(b.s.Scan(low, true))...))
			}
		}
	}
	// at each key that is there, very finely
	b := bothOf(t, edges()...)
	var fine []api.Pair
	from := ""
	for _, at := range append(edges(), "\xff\xff\xff") {
		fine = append(fine, listed(b.s.Scan(api.Span{From: from, To: at}, false))...)
		from = at
	}
	wantPairs(t, b.s.Scan(all(), false), fine)
}
