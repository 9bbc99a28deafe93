package shelf_test

import (
	"math/rand"
	"slices"
	"sort"
	"strconv"
	"strings"
	"testing"

	"dovetail/api"
	"dovetail/shelf"
)

// TestExamples is the chapter's table, row by row.
func TestExamples(t *testing.T) {
	s := shelf.New()
	if s.Put("b", "1") || s.Put("a", "2") || !s.Put("b", "3") || s.Len() != 2 {
		t.Error("Put(b, 1), Put(a, 2), Put(b, 3), Len")
	}
	wantGet(t, s, "b", "3", true)
	wantGet(t, s, "c", "", false)
	if s.Delete("c") || !s.Delete("a") {
		t.Error("Delete(c), Delete(a)")
	}
	wantGet(t, s, "a", "", false)

	s = shelf.New()
	for _, k := range []string{"a", "b", "c"} {
		s.Put(k, "")
	}
	wantPairs(t, s.Scan(api.Span{From: "a", To: "c"}, false), bare("a", "b"))
	wantPairs(t, s.Scan(api.Span{From: "b", To: "b"}, false), nil)
	wantPairs(t, s.Scan(api.Span{Open: true}, true), bare("c", "b", "a"))
	var told []api.Pair
	for p := range s.Scan(api.Span{Open: true}, false) {
		if len(told) == 0 {
			s.Delete(p.Key)
			s.Delete("c")
			s.Put("d", "")
		}
		told = append(told, p)
	}
	if !slices.Equal(told, bare("a", "b", "c")) {
		t.Errorf("told %s", keysOf(told))
	}
	wantPairs(t, s.Scan(api.Span{Open: true}, false), bare("b", "d"))
	if s.Put("", "") {
		t.Error("Put of the key of no bytes")
	}
	wantPairs(t, s.Scan(api.Span{To: "a"}, false), bare(""))
}

// bare are pairs of keys with nothing kept under them.
func bare(keys ...string) []api.Pair {
	var l []api.Pair
	for _, k := range keys {
		l = append(l, api.Pair{Key: k})
	}
	return l
}

func wantGet(t *testing.T, s *shelf.Shelf, key, want string, there bool) {
	t.Helper()
	if got, is := s.Get(key); got != want || is != there {
		t.Errorf("Get(%q): %q, %v; not %q, %v", brief(key), brief(got), is, brief(want), there)
	}
}

// TestNew is P19.1: a shelf without pairs, of which there is nothing to tell, and nothing to take away.
func TestNew(t *testing.T) {
	b := newBoth(t)
	if b.s == nil {
		t.Fatal("New is nil")
	}
	b.check(edges()...)
	for _, k := range edges() {
		b.delete(k)
		b.check(k)
	}
	for _, a := range spans(edges()) {
		b.scan(a, false)
		b.scan(a, true)
	}
}

// TestNewApart is R2: shelves know nothing of one another.
func TestNewApart(t *testing.T) {
	one, two := newBoth(t), newBoth(t)
	one.put("a", "1")
	two.check("a")
	two.put("a", "2")
	two.put("b", "3")
	one.check("a", "b")
	one.delete("a")
	two.check("a", "b")
	newBoth(t).check("a", "b")
}

// TestPutOrders is P19.2: keys that begin one another, in all orders that they can come in; then what is put over each.
func TestPutOrders(t *testing.T) {
	keys := []string{"", "\x00", "a", "a\x00", "a\xff", "\xff"}
	for _, o := range orders(len(keys)) {
		b := newBoth(t)
		for i, n := range o {
			b.put(keys[n], strconv.Itoa(i))
			b.check(keys...)
		}
		for i, n := range o {
			b.put(keys[n], strconv.Itoa(10+i))
			b.check(keys...)
		}
	}
}

// TestPutPlaces is P19.2: one pair more at the front, in the middle and at the end, and each one put over.
func TestPutPlaces(t *testing.T) {
	for _, k := range []string{"", "a", "c", "e", "g", "b", "d", "f", "b\x00", "c\xff"} {
		b := bothOf(t, "d", "b", "f")
		b.put(k, "new")
		b.check("a", "b", "c", "d", "e", "f", "g", "")
		b.put(k, "newer")
		b.check("a", "b", "c", "d", "e", "f", "g", "")
		b.delete(k)
		b.check("a", "b", "c", "d", "e", "f", "g", "")
	}
}

// TestDeleteOrders is P19.2: all are deleted, in all orders, with what is not there between; and then put in again.
func TestDeleteOrders(t *testing.T) {
	keys := []string{"", "\x00", "a", "a\x00", "a\xff", "\xff"}
	for _, o := range orders(len(keys)) {
		b := bothOf(t, keys...)
		for _, n := range o {
			b.delete(keys[n] + "\x01")
			b.delete(keys[n])
			b.check(keys...)
			b.delete(keys[n])
			b.check(keys...)
		}
		b.put(keys[o[0]], "again")
		b.check(keys...)
	}
}

// TestDeleteEach is P19.2: of shelves of few and of many keys, each one is deleted alone.
func TestDeleteEach(t *testing.T) {
	for n := 1; n <= 40; n++ {
		for gone := range n {
			b := newBoth(t)
			for i := range n {
				b.put(number(i), "")
			}
			b.delete(number(gone))
			b.check(number(gone), number(n))
		}
	}
}

// number is a key: such keys rise as the numbers do.
func number(n int) string {
	return string([]byte{byte(n >> 24), byte(n >> 16), byte(n >> 8), byte(n)})
}

// TestAlike is P19.2: keys are alike just if all their bytes are.
func TestAlike(t *testing.T) {
	for _, one := range edges() {
		for _, two := range edges() {
			b := bothOf(t, one)
			b.delete(two)
			b.check(one, two)
			b = bothOf(t, one)
			b.put(two, "two")
			b.check(one, two)
			b.delete(one)
			b.check(one, two)
		}
	}
	long := strings.Repeat("\x00", 65535)
	b := bothOf(t, long+"\x00", long, long+"\xff", long+"\x00\x00")
	b.check(long[1:], long+"\x01")
	b.delete(long)
	b.delete(long + "\x01")
	b.check(long)
}

// TestValues is P19.2: what is kept is any bytes; of none it is not the same as no pair.
func TestValues(t *testing.T) {
	values := []string{"", "\x00", "\xff", "a", "\xc3", strings.Repeat("\xff", 70000), "b", ""}
	b := bothOf(t, "a", "c")
	for _, v := range values {
		b.put("b", v)
		b.check()
		wantGet(t, b.s, "b", v, true)
		b.put("b", v)
		b.check()
	}
	wantGet(t, b.s, "b", "", true)
	b.delete("b")
	wantGet(t, b.s, "b", "", false)
	b.put("b", "")
	wantGet(t, b.s, "b", "", true)
	if b.s.Len() != 3 {
		t.Errorf("Len: %d", b.s.Len())
	}
	// a key, and what is kept under another one, are no matter to each other
	b = bothOf(t)
	b.put("a", "b")
	b.check("b")
	b.put("b", "a")
	b.check()
	b.delete("a")
	b.check("a")
}

// TestRandom is P19.1 to P19.3: rows of calls of all sorts, with keys that often are there, against a plain list.
func TestRandom(t *testing.T) {
	r := rand.New(rand.NewSource(191))
	for round := range 60 {
		b := newBoth(t)
		key := func() string { return someKey(r, 1+round%4) }
		for i := range 400 {
			switch r.Intn(8) {
			case 0, 1, 2:
				b.put(key(), strconv.Itoa(i))
			case 3, 4:
				b.delete(key())
			case 5:
				b.get(key())
			default:
				b.scan(api.Span{From: key(), To: key(), Open: r.Intn(4) == 0}, r.Intn(2) == 0)
			}
			if b.s.Len() != len(b.p.pairs) {
				t.Fatalf("Len: %d, not %d", b.s.Len(), len(b.p.pairs))
			}
		}
		b.check()
	}
}

// someKey has at most so many bytes, of a few sorts, so that keys come again and begin one another.
func someKey(r *rand.Rand, most int) string {
	l := make([]byte, r.Intn(most+1))
	for i := range l {
		l[i] = "\x00\x01az\x7f\x80\xfe\xff"[r.Intn(8)]
	}
	return string(l)
}

// TestMany is P19.5: very many keys, in rising, falling and random order, and from both ends; and taken away in such orders, all but some.
func TestMany(t *testing.T) {
	const n = 1 << 16
	for name, order := range manyOrders(n) {
		s := shelf.New()
		for _, k := range order {
			if s.Put(number(k), "old") {
				t.Fatalf("%s: %d was there", name, k)
			}
		}
		for _, k := range order {
			if !s.Put(number(k), strconv.Itoa(k)) {
				t.Fatalf("%s: %d was not there", name, k)
			}
		}
		wantEvery(t, s, n, 1)
		for name, order := range manyOrders(n) {
			c := s.Clone()
			for _, k := range order {
				if k%7 != 0 && !c.Delete(number(k)) {
					t.Fatalf("%s: %d was not there", name, k)
				}
			}
			wantEvery(t, c, n, 7)
		}
		wantEvery(t, s, n, 1)
	}
}

// wantEvery wants a shelf of the numbers below n that step divides, no others.
func wantEvery(t *testing.T, s *shelf.Shelf, n, step int) {
	t.Helper()
	if want := (n + step - 1) / step; s.Len() != want {
		t.Fatalf("Len: %d, not %d", s.Len(), want)
	}
	next := 0
	for p := range s.Scan(all(), false) {
		if p.Key != number(next) || p.Value != strconv.Itoa(next) {
			t.Fatalf("told %q, %s at %d", p.Key, p.Value, next)
		}
		next += step
	}
	if next < n {
		t.Fatalf("the last is %d", next)
	}
	for k := range n {
		if v, is := s.Get(number(k)); is != (k%step == 0) || is && v != strconv.Itoa(k) || !is && v != "" {
			t.Fatalf("Get of %d: %s, %v", k, v, is)
		}
	}
}

// manyOrders are some orders of the numbers below n.
func manyOrders(n int) map[string][]int {
	rising := make([]int, n)
	for i := range rising {
		rising[i] = i
	}
	falling := slices.Clone(rising)
	slices.Reverse(falling)
	var ends []int
	for i := range n / 2 {
		ends = append(ends, i, n-1-i)
	}
	inner := slices.Clone(ends)
	slices.Reverse(inner)
	return map[string][]int{"rising": rising, "falling": falling, "from both ends": ends, "from within": inner, "random": rand.New(rand.NewSource(192)).Perm(n)}
}

// TestNil is R2: of a nil shelf all calls answer zero, whatever they are given, and Scan can be ranged over.
func TestNil(t *testing.T) {
	var s *shelf.Shelf
	for _, k := range edges() {
		if s.Put(k, "x") || s.Delete(k) || s.Len() != 0 || s.Clone() != nil {
			t.Errorf("%q", k)
		}
		wantGet(t, s, k, "", false)
	}
	for _, a := range spans([]string{"", "a", "\xff"}) {
		wantPairs(t, s.Scan(a, false), nil)
		wantPairs(t, s.Scan(a, true), nil)
	}
	twice := s.Scan(all(), false)
	for range 2 {
		for p := range twice {
			t.Errorf("%v", p)
		}
	}
}

// TestKept is R2: what is kept are the bytes as they were, whatever becomes of the room that they came from; and what is told may be changed.
func TestKept(t *testing.T) {
	b := newBoth(t)
	room := []byte("key0value0")
	for i := range 10 {
		room[3], room[9] = byte('0'+i), byte('9'-i)
		b.put(string(room[:4]), string(room[4:]))
	}
	clear(room)
	b.check()
	for p := range b.s.Scan(all(), false) {
		p.Key, p.Value = "x", "y"
	}
	for p := range b.s.Scan(all(), true) {
		p.Value += "y"
	}
	b.check("x")
	l := listed(b.s.Scan(all(), false))
	sort.Slice(l, func(i, j int) bool { return l[i].Value < l[j].Value })
	clear(l)
	b.check()
	a := api.Span{From: "key3", To: "key5"}
	seq := b.s.Scan(a, false)
	want := b.p.scan(a, false)
	a.From, a.To, a.Open = "", "", true
	wantPairs(t, seq, want)
}
