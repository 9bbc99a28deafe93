package shelf_test

import (
	"bytes"
	"iter"
	"slices"
	"sort"
	"strconv"
	"testing"

	"dovetail/api"
	"dovetail/shelf"
)

// plain is a shelf by the chapter's words: a list of pairs, in whatever order they came.
type plain struct{ pairs []api.Pair }

func (p *plain) place(key string) int {
	return slices.IndexFunc(p.pairs, func(x api.Pair) bool { return x.Key == key })
}

func (p *plain) put(key, value string) bool {
	if i := p.place(key); i >= 0 {
		p.pairs[i].Value = value
		return true
	}
	p.pairs = append(p.pairs, api.Pair{Key: key, Value: value})
	return false
}

func (p *plain) get(key string) (string, bool) {
	if i := p.place(key); i >= 0 {
		return p.pairs[i].Value, true
	}
	return "", false
}

func (p *plain) delete(key string) bool {
	i := p.place(key)
	if i < 0 {
		return false
	}
	p.pairs = slices.Delete(p.pairs, i, i+1)
	return true
}

func (p *plain) clone() *plain { return &plain{slices.Clone(p.pairs)} }

// ahead: the order of bytes, by the library's.
func ahead(a, b string) bool { return bytes.Compare([]byte(a), []byte(b)) < 0 }

// within is chapter 16's word: from From on, From too, ahead of To, or without end.
func within(a api.Span, key string) bool {
	return !ahead(key, a.From) && (a.Open || ahead(key, a.To))
}

func (p *plain) scan(a api.Span, back bool) []api.Pair {
	var l []api.Pair
	for _, x := range p.pairs {
		if within(a, x.Key) {
			l = append(l, x)
		}
	}
	sort.Slice(l, func(i, j int) bool { return ahead(l[i].Key, l[j].Key) })
	if back {
		slices.Reverse(l)
	}
	return l
}

// both are a shelf and its plain list: what is done to the one is done to the other, and they must answer the same.
type both struct {
	t *testing.T
	s *shelf.Shelf
	p *plain
}

func newBoth(t *testing.T) both { return both{t, shelf.New(), &plain{}} }

// bothOf has the keys, put in their order, each with its place under it.
func bothOf(t *testing.T, keys ...string) both {
	b := newBoth(t)
	for i, k := range keys {
		b.put(k, strconv.Itoa(i))
	}
	return b
}

func (b both) put(key, value string) {
	b.t.Helper()
	if got, want := b.s.Put(key, value), b.p.put(key, value); got != want {
		b.t.Fatalf("Put(%q, %q): %v", key, brief(value), got)
	}
}

func (b both) delete(key string) {
	b.t.Helper()
	if got, want := b.s.Delete(key), b.p.delete(key); got != want {
		b.t.Fatalf("Delete(%q): %v", key, got)
	}
}

func (b both) clone() both { return both{b.t, b.s.Clone(), b.p.clone()} }

// check holds Len, Get of each of the keys (and of each that is there), and Scan of all, rising and falling, against the list.
func (b both) check(keys ...string) {
	b.t.Helper()
	if got := b.s.Len(); got != len(b.p.pairs) {
		b.t.Fatalf("Len: %d, not %d", got, len(b.p.pairs))
	}
	for _, x := range b.p.pairs {
		b.get(x.Key)
	}
	for _, k := range keys {
		b.get(k)
	}
	b.scan(all(), false)
	b.scan(all(), true)
}

func (b both) get(key string) {
	b.t.Helper()
	got, is := b.s.Get(key)
	want, there := b.p.get(key)
	if got != want || is != there {
		b.t.Fatalf("Get(%q): %q, %v; not %q, %v", key, brief(got), is, brief(want), there)
	}
}

func (b both) scan(a api.Span, back bool) {
	b.t.Helper()
	wantPairs(b.t, b.s.Scan(a, back), b.p.scan(a, back))
}

func wantPairs(t *testing.T, got iter.Seq[api.Pair], want []api.Pair) {
	t.Helper()
	if l := listed(got); !slices.Equal(l, want) {
		t.Fatalf("told %s, not %s", keysOf(l), keysOf(want))
	}
}

func listed(got iter.Seq[api.Pair]) []api.Pair {
	var l []api.Pair
	for p := range got {
		l = append(l, p)
	}
	return l
}

func keysOf(l []api.Pair) string {
	var s []byte
	for _, x := range l {
		s = append(strconv.AppendQuote(s, brief(x.Key)), ':')
		s = append(strconv.AppendQuote(s, brief(x.Value)), ' ')
	}
	return string(s)
}

// ends are a span's, to be read.
func ends(a api.Span) string {
	if a.Open {
		return strconv.Quote(a.From) + " on"
	}
	return strconv.Quote(a.From) + " to " + strconv.Quote(a.To)
}

func brief(s string) string {
	if len(s) > 40 {
		return s[:40] + ".." + strconv.Itoa(len(s))
	}
	return s
}

func all() api.Span { return api.Span{Open: true} }

// edges are keys of which one begins another, with the lowest and the highest bytes, by rising bytes.
func edges() []string {
	return []string{"", "\x00", "\x00\x00", "\x00\xff", "a", "a\x00", "a\x00\x00", "a\x01", "ab", "a\xff", "b", "\x7f", "\x80", "\xfe", "\xff", "\xff\x00", "\xff\xff"}
}

// spans are those between each two of the places, and those without end; some of them end ahead of where they begin.
func spans(places []string) []api.Span {
	var l []api.Span
	for _, from := range places {
		for _, to := range places {
			l = append(l, api.Span{From: from, To: to}, api.Span{From: from, To: to, Open: true})
		}
	}
	return l
}

// orders are all orders of n things.
func orders(n int) [][]int {
	if n == 0 {
		return [][]int{nil}
	}
	var l [][]int
	for _, o := range orders(n - 1) {
		for i := range n {
			l = append(l, slices.Insert(slices.Clone(o), i, n-1))
		}
	}
	return l
}
