package shelf_test

import (
	"iter"
	"math/rand"
	"slices"
	"testing"

	"dovetail/api"
	"dovetail/shelf"
	"dovetail/span"
)

// TestScanSpans is P19.3: of shelves of some of the keys that begin one another, each span whose ends are keys, or stand between them, or ahead of or behind all.
func TestScanSpans(t *testing.T) {
	keys := []string{"", "\x00", "a", "a\x00", "a\xff", "b", "\xff\xff"}
	l := spans(append(slices.Clone(keys), "\x00\x00", "a\x01", "c", "\xff", "\xff\xff\x00"))
	for some := range 1 << len(keys) {
		b := newBoth(t)
		for i, k := range keys {
			if some>>i&1 == 1 {
				b.put(k, "v"+k)
			}
		}
		for _, a := range l {
			b.scan(a, false)
			b.scan(a, true)
		}
	}
}

// TestScanHas is P19.3 with P16.6: just the keys that a span has are told.
func TestScanHas(t *testing.T) {
	r := rand.New(rand.NewSource(193))
	for range 300 {
		b := newBoth(t)
		for range r.Intn(60) {
			b.put(someKey(r, 3), someKey(r, 1))
		}
		for range 30 {
			a := api.Span{From: someKey(r, 3), To: someKey(r, 3), Open: r.Intn(5) == 0}
			told := map[string]int{}
			for p := range b.s.Scan(a, r.Intn(2) == 0) {
				told[p.Key]++
			}
			for _, p := range b.p.pairs {
				want := 0
				if span.Has(a, p.Key) {
					want = 1
				}
				if told[p.Key] != want {
					t.Fatalf("%s: %q is told %d times", ends(a), p.Key, told[p.Key])
				}
			}
		}
	}
}

// TestScanLeft is P19.3: a range is left behind each of its pairs, and tells nothing more then; and it can be ranged over from its beginning again.
func TestScanLeft(t *testing.T) {
	b := bothOf(t, edges()...)
	for _, a := range []api.Span{all(), {From: "\x00\x00", To: "\xff"}, {From: "b", Open: true}} {
		for _, back := range []bool{false, true} {
			want := b.p.scan(a, back)
			seq := b.s.Scan(a, back)
			for n := range want {
				var told []api.Pair
				seq(func(p api.Pair) bool {
					told = append(told, p)
					return len(told) <= n
				})
				if !slices.Equal(told, want[:n+1]) {
					t.Fatalf("left behind %d: %s", n, keysOf(told))
				}
				told = nil
				for p := range seq {
					if len(told) == n {
						break
					}
					told = append(told, p)
				}
				if !slices.Equal(told, want[:n]) {
					t.Fatalf("left ahead of %d: %s", n, keysOf(told))
				}
			}
			wantPairs(t, seq, want)
		}
	}
}

// TestScanAgain is P19.3: a range that is ranged over again tells what there is then: also one that was made ahead of all pairs.
func TestScanAgain(t *testing.T) {
	b := newBoth(t)
	a := api.Span{From: "b", To: "e"}
	seqs := []iter.Seq[api.Pair]{b.s.Scan(all(), false), b.s.Scan(all(), true), b.s.Scan(a, false), b.s.Scan(a, true)}
	again := func() {
		t.Helper()
		for range 2 {
			wantPairs(t, seqs[0], b.p.scan(all(), false))
			wantPairs(t, seqs[1], b.p.scan(all(), true))
			wantPairs(t, seqs[2], b.p.scan(a, false))
			wantPairs(t, seqs[3], b.p.scan(a, true))
		}
	}
	again()
	for _, k := range []string{"c", "a", "e", "b", "d", "f", "", "b\x00"} {
		b.put(k, "1")
		again()
		b.put(k, "2"+k)
		again()
	}
	for _, k := range []string{"d", "x", "", "b", "c", "f", "e", "b\x00", "a", "a"} {
		b.delete(k)
		again()
	}
	b.put("c", "3")
	again()
	// left early, then changed: nothing of the range that was left is remembered
	b.put("d", "4")
	for p := range seqs[2] {
		if p.Key == "c" {
			break
		}
	}
	b.delete("c")
	b.put("b", "5")
	again()
}

// TestScanWithin is P19.3: a range within itself, and within another one.
func TestScanWithin(t *testing.T) {
	b := bothOf(t, "d", "a", "c", "", "b", "e")
	one, two := b.s.Scan(all(), false), b.s.Scan(api.Span{From: "b", To: "e"}, true)
	wantOne, wantTwo := b.p.scan(all(), false), b.p.scan(api.Span{From: "b", To: "e"}, true)
	n := 0
	for p := range one {
		if p != wantOne[n] {
			t.Fatalf("%q at %d", p, n)
		}
		n++
		wantPairs(t, one, wantOne)
		wantPairs(t, two, wantTwo)
		m := 0
		for q := range two {
			if q != wantTwo[m] {
				t.Fatalf("%q at %d", q, m)
			}
			m++
			for range one { // left early, three deep
				break
			}
			wantPairs(t, one, wantOne)
			wantPairs(t, two, wantTwo)
		}
		if m != len(wantTwo) {
			t.Fatalf("%d of the inner one", m)
		}
	}
	if n != len(wantOne) {
		t.Fatalf("%d of the outer one", n)
	}
}

// change is something that is done to a shelf within a range, when it tells the key at.
type change struct {
	name string
	do   func(b both, at string)
}

func changes() []change {
	return []change{
		{"delete what is told", func(b both, at string) { b.delete(at) }},
		{"put over what is told", func(b both, at string) { b.put(at, "new") }},
		{"put one behind it", func(b both, at string) { b.put(at+"\x00", "new") }},
		{"put the first", func(b both, at string) { b.put("", "new") }},
		{"put the last", func(b both, at string) { b.put("\xff", "new") }},
		{"put over the lowest and the highest", func(b both, at string) { b.put("b", "new"); b.put("j", "new") }},
		{"delete the lowest and the highest", func(b both, at string) { b.delete("b"); b.delete("j") }},
		{"delete one within", func(b both, at string) { b.delete("f") }},
		{"delete all but what is told", func(b both, at string) {
			for _, p := range b.p.scan(all(), false) {
				if p.Key != at {
					b.delete(p.Key)
				}
			}
		}},
		{"delete all, and put one", func(b both, at string) {
			for _, p := range b.p.scan(all(), true) {
				b.delete(p.Key)
			}
			b.put("e", "new")
		}},
		{"put many", func(b both, at string) {
			for i := range 30 {
				b.put(string([]byte{byte('a' + i%12), byte(i)}), "new")
			}
		}},
		{"range over it, and clone it", func(b both, at string) { b.check(); b.clone().put(at, "new") }},
	}
}

// TestScanChanges is P19.3: whatever is changed within a range, at one of its pairs or at each, it tells what there was when it began; behind it all changes are there.
func TestScanChanges(t *testing.T) {
	for _, c := range changes() {
		for _, back := range []bool{false, true} {
			for _, a := range []api.Span{all(), {From: "c", To: "i"}, {From: "d", To: "h\x00"}, {From: "e", Open: true}} {
				for at := -1; at < 5; at++ { // -1: at each
					b := bothOf(t, "f", "b", "j", "d", "h")
					want := b.p.scan(a, back)
					var told []api.Pair
					for p := range b.s.Scan(a, back) {
						if at < 0 || at == len(told) {
							c.do(b, p.Key)
							b.check("", "a", "b", "f", "\xff")
						}
						told = append(told, p)
					}
					if !slices.Equal(told, want) {
						t.Fatalf("%s at %d of %s: told %s, not %s", c.name, at, ends(a), keysOf(told), keysOf(want))
					}
					b.check()
					b.scan(a, back)
				}
			}
		}
	}
}

// TestScanChangesMany is P19.3: a shelf of many pairs that is wholly changed while it is ranged over.
func TestScanChangesMany(t *testing.T) {
	r := rand.New(rand.NewSource(194))
	for range 30 {
		b := newBoth(t)
		for range 200 {
			b.put(someKey(r, 4), someKey(r, 2))
		}
		a := api.Span{From: someKey(r, 1), To: someKey(r, 2), Open: r.Intn(2) == 0}
		back := r.Intn(2) == 0
		want := b.p.scan(a, back)
		var told []api.Pair
		for p := range b.s.Scan(a, back) {
			told = append(told, p)
			for range 5 {
				b.put(someKey(r, 4), "new")
				b.delete(someKey(r, 4))
				b.delete(want[r.Intn(len(want))].Key)
			}
		}
		if !slices.Equal(told, want) {
			t.Fatalf("told %s, not %s", keysOf(told), keysOf(want))
		}
		b.check()
	}
}

// TestScanNested is P19.3: each range within a range tells what there is when it begins itself, and the outer one goes on with what there was.
func TestScanNested(t *testing.T) {
	b := bothOf(t, "a", "b", "c", "d")
	seq := b.s.Scan(all(), false)
	var outer []api.Pair
	want := b.p.scan(all(), false)
	for p := range seq {
		outer = append(outer, p)
		b.delete(p.Key)
		b.put(p.Key+p.Key, "new")
		before := b.p.scan(all(), false)
		var inner []api.Pair
		for q := range seq {
			inner = append(inner, q)
			b.put(q.Key, q.Value+"+")
			b.put("z", "")
			b.delete("z")
		}
		if !slices.Equal(inner, before) {
			t.Fatalf("within %q: told %s, not %s", p.Key, keysOf(inner), keysOf(before))
		}
		b.check()
	}
	if !slices.Equal(outer, want) {
		t.Fatalf("told %s, not %s", keysOf(outer), keysOf(want))
	}
}

// TestScanBegins is P19.3: a range begins when its first pair is asked for, not when Scan is called; two that are gone through by turns tell each its own.
func TestScanBegins(t *testing.T) {
	b := bothOf(t, "a", "b", "c")
	one := b.s.Scan(all(), false)
	next, stop := iter.Pull(one)
	defer stop()
	b.delete("a")
	b.put("bb", "new")
	wantOne := b.p.scan(all(), false)
	take := func(next func() (api.Pair, bool), want api.Pair) {
		t.Helper()
		if p, is := next(); !is || p != want {
			t.Fatalf("%q, %v; not %q", p, is, want)
		}
	}
	take(next, wantOne[0])
	b.delete("bb")
	b.put("c", "newer")
	after, end := iter.Pull(one)
	defer end()
	wantTwo := b.p.scan(all(), false)
	take(after, wantTwo[0])
	b.delete("c")
	b.put("d", "")
	take(next, wantOne[1])
	take(after, wantTwo[1])
	b.delete("b")
	take(next, wantOne[2])
	if _, is := next(); is {
		t.Error("one more")
	}
	if _, is := after(); is {
		t.Error("one more")
	}
	b.check("a", "b", "c", "d")
}

// TestScanGivenUp: what is ranged over may be left by a panic, too; the shelf has nothing of it.
func TestScanGivenUp(t *testing.T) {
	b := bothOf(t, "a", "b", "c", "d", "e")
	seq := b.s.Scan(all(), true)
	func() {
		defer func() {
			if recover() != "enough" {
				t.Error("another panic")
			}
		}()
		for p := range seq {
			b.delete(p.Key)
			if p.Key == "c" {
				panic("enough")
			}
		}
	}()
	b.check("c", "d")
	wantPairs(t, seq, b.p.scan(all(), true))
}

// TestScanOther is R2: a range over one shelf has nothing to do with another one.
func TestScanOther(t *testing.T) {
	one, two := bothOf(t, "a", "b", "c"), bothOf(t, "b", "c", "d")
	seq := one.s.Scan(all(), false)
	var told []api.Pair
	for p := range seq {
		told = append(told, p)
		two.put(p.Key, "new")
		two.delete("c")
		wantPairs(t, two.s.Scan(all(), false), two.p.scan(all(), false))
	}
	if !slices.Equal(told, one.p.scan(all(), false)) {
		t.Errorf("told %s", keysOf(told))
	}
	one.check("d")
	two.check("c")
	var none *shelf.Shelf
	for range seq {
		wantPairs(t, none.Scan(all(), false), nil)
	}
}
