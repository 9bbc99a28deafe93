package span_test

import (
	"strings"
	"testing"

	"dovetail/api"
	"dovetail/span"
)

// TestMeetExamples is the chapter's table on Meet, Empty and Has.
func TestMeetExamples(t *testing.T) {
	if a := span.Meet(fromTo("a", "c"), openFrom("b")); a != fromTo("b", "c") {
		t.Errorf("%s", hexes(a))
	}
	if !span.Empty(fromTo("a", "a")) || span.Empty(openFrom("")) || !span.Has(fromTo("a", "b"), "a\xff") {
		t.Error("Empty, Has")
	}
}

// TestMeet is P16.4: the greater From, the lesser To of those that count, and Open only where both are; told either way round.
func TestMeet(t *testing.T) {
	openTo := func(from, to string) api.Span { return api.Span{From: from, To: to, Open: true} }
	for _, c := range []struct{ a, b, want api.Span }{
		{fromTo("a", "c"), fromTo("b", "d"), fromTo("b", "c")},
		{fromTo("a", "d"), fromTo("b", "c"), fromTo("b", "c")},
		{fromTo("a", "b"), fromTo("c", "d"), fromTo("c", "b")}, // nothing in common, told as it is
		{fromTo("a", "b"), fromTo("b", "c"), fromTo("b", "b")},
		{fromTo("a", "b"), fromTo("a", "b"), fromTo("a", "b")},
		{fromTo("a", "c"), fromTo("a", "b"), fromTo("a", "b")},
		{fromTo("a", "c"), fromTo("b", "c"), fromTo("b", "c")},
		{fromTo("a", "b"), fromTo("a\x00", "b\x00"), fromTo("a\x00", "b")},
		{fromTo("\x7f", "\xff"), fromTo("\x80", "\xff\x00"), fromTo("\x80", "\xff")},
		{fromTo("", ""), fromTo("a", "b"), fromTo("a", "")},
		{fromTo("", ""), openFrom(""), fromTo("", "")},
		{fromTo("a", "b"), openFrom(""), fromTo("a", "b")},
		{fromTo("a", "b"), openFrom("c"), fromTo("c", "b")},
		{fromTo("d", "b"), openFrom("c"), fromTo("d", "b")},
		{openFrom("a"), openFrom("b"), openFrom("b")},
		{openFrom(""), openFrom(""), openFrom("")},
		// what an Open one says as its To counts for nothing, and does not come out
		{openTo("a", "x"), openFrom(""), openFrom("a")},
		{openTo("a", "x"), openTo("b", "y"), openFrom("b")},
		{openTo("a", "b"), fromTo("a", "c"), fromTo("a", "c")},
		{openTo("a", "b"), openTo("a", "b"), openFrom("a")},
		{openTo("a", "d"), fromTo("b", "c"), fromTo("b", "c")},
	} {
		if got := span.Meet(c.a, c.b); got != c.want {
			t.Errorf("%s, %s: %s", hexes(c.a), hexes(c.b), hexes(got))
		}
		if got := span.Meet(c.b, c.a); got != c.want {
			t.Errorf("%s, %s: %s", hexes(c.b), hexes(c.a), hexes(got))
		}
	}
}

// TestHas is P16.4: keys that are From, that are To, and those right beside them.
func TestHas(t *testing.T) {
	for _, c := range []struct {
		a   api.Span
		in  []string
		out []string
	}{
		{fromTo("a", "b"), []string{"a", "a\x00", "a\xff", "a\xff\xff"}, []string{"", "`", "`\xff", "b", "b\x00", "c", "\xff"}},
		{fromTo("", "a"), []string{"", "\x00", "`\xff"}, []string{"a", "a\x00", "\xff"}},
		{fromTo("a", "a\x00"), []string{"a"}, []string{"", "a\x00", "a\x01", "b"}},
		{fromTo("\x7f", "\x80"), []string{"\x7f", "\x7f\xff"}, []string{"\x80", "\x00", "\xff"}},
		{openFrom("a"), []string{"a", "a\x00", "b", "\xff", strings.Repeat("\xff", 70000)}, []string{"", "`\xff", "A"}},
		{openFrom(""), []string{"", "\x00", "\xff", strings.Repeat("\xff", 70000)}, nil},
		{api.Span{From: "b", To: "a", Open: true}, []string{"b", "c"}, []string{"a", ""}}, // its To counts for nothing
		{api.Span{From: "b", To: "c", Open: true}, []string{"b", "c", "d"}, []string{"a", ""}},
		{fromTo("a", "a"), nil, []string{"", "a", "a\x00", "b"}},
		{fromTo("b", "a"), nil, []string{"", "a", "a\x00", "b", "b\x00", "c"}},
		{fromTo("", ""), nil, []string{"", "\x00", "a"}},
		{fromTo("a", ""), nil, []string{"", "\x00", "a", "b"}},
	} {
		for _, key := range c.in {
			if !span.Has(c.a, key) {
				t.Errorf("%s has no %s", hexes(c.a), hex(key))
			}
		}
		for _, key := range c.out {
			if span.Has(c.a, key) {
				t.Errorf("%s has %s", hexes(c.a), hex(key))
			}
		}
		if span.Empty(c.a) != (len(c.in) == 0) {
			t.Errorf("%s: %d texts, and Empty: %v", hexes(c.a), len(c.in), span.Empty(c.a))
		}
	}
}

// shortTexts are all rows of up to so many of some bytes that count.
func shortTexts(most int) []string {
	l := []string{""}
	for i := 0; i < len(l); i++ {
		if len(l[i]) < most {
			for _, c := range []string{"\x00", "a", "\xff"} {
				l = append(l, l[i]+c)
			}
		}
	}
	return l
}

// allSpans are all spans between short texts, Open and not.
func allSpans(most int) []api.Span {
	var l []api.Span
	for _, from := range shortTexts(most) {
		for _, to := range shortTexts(most) {
			l = append(l, fromTo(from, to), api.Span{From: from, To: to, Open: true})
		}
	}
	return l
}

// TestEmpty is P16.4: a span is empty just if no text stands in it; a text that does is From, if there is one.
func TestEmpty(t *testing.T) {
	for _, a := range allSpans(2) {
		some := false
		for _, key := range shortTexts(4) {
			in := strings.Compare(a.From, key) <= 0 && (a.Open || strings.Compare(key, a.To) < 0)
			if span.Has(a, key) != in {
				t.Fatalf("%s, %s: not %v", hexes(a), hex(key), in)
			}
			some = some || in
		}
		if span.Empty(a) == some {
			t.Fatalf("%s: %v, though there is one: %v", hexes(a), some, some)
		}
	}
}

// TestMeetHas is P16.6: Has of Meet is Has of both; Meet is the same the other way round; Empty of Meet of a span and itself is Empty of it.
func TestMeetHas(t *testing.T) {
	all := allSpans(1)
	for _, a := range append(all, allSpans(2)...) {
		if span.Empty(span.Meet(a, a)) != span.Empty(a) {
			t.Fatalf("%s", hexes(a))
		}
		for _, b := range all {
			both := span.Meet(a, b)
			if again := span.Meet(b, a); again != both {
				t.Fatalf("%s, %s: %s, %s", hexes(a), hexes(b), hexes(both), hexes(again))
			}
			if both.Open && both.To != "" {
				t.Fatalf("%s, %s: %s", hexes(a), hexes(b), hexes(both))
			}
			some := false
			for _, key := range shortTexts(3) {
				in := span.Has(a, key) && span.Has(b, key)
				if span.Has(both, key) != in {
					t.Fatalf("%s, %s: %s has %s: not %v", hexes(a), hexes(b), hexes(both), hex(key), in)
				}
				some = some || in
			}
			if span.Empty(both) == some {
				t.Fatalf("%s, %s: %s", hexes(a), hexes(b), hexes(both))
			}
		}
	}
}
