package space_test

import (
	"testing"

	"dovetail/api"
)

// deed is one call that changes a space.
type deed struct {
	name string
	do   func(b both) error
}

// deeds are all sorts of calls that change the space of cloneBoth.
func deeds(t testing.TB) []deed {
	return []deed{
		{"Tables", func(b both) error { return b.tables(acute, rising) }},
		{"Define", func(b both) error { return b.define("new", pText) }},
		{"Evolve", func(b both) error {
			return b.evolve("p", "limit 65\nfield a int null-last\nfield b bytes down most 9\n")
		}},
		{"Evolve without rows", func(b both) error { return b.evolve("q", "limit 9\nfield x id\n") }},
		{"Put", func(b both) error { return b.put("p", part(t, "(0 x)"), "new") }},
		{"Put over", func(b both) error { return b.put("p", part(t, "(1 x78)"), "new") }},
		{"Put where nothing is", func(b both) error { return b.put("q", part(t, "(x '' 1)"), "new") }},
		{"Delete", func(b both) error { _, err := b.remove("p", part(t, "(1 x79)")); return err }},
		{"Import", func(b both) error { return b.importKey("p", "\x12\x80\x23\xff\xfe", "new") }},
		{"Rekey", func(b both) error { return b.rekey("p", "q", qSources(t)) }},
		{"Rekey to itself", func(b both) error { return b.rekey("p", "p", []api.Source{own(part(t, "7")), {Field: 1}}) }},
	}
}

func cloneBoth(t testing.TB) both {
	b := madeBoth(t)
	must(t, b.define("q", qText))
	must(t, b.define("t", "limit 64\nfield t text strength 1\n"))
	return b
}

// TestClone is P20.1: alike; and whatever is done to either one is nothing to the other.
func TestClone(t *testing.T) {
	for _, first := range deeds(t) {
		for _, then := range deeds(t) {
			for _, turned := range []bool{false, true} {
				b := cloneBoth(t)
				other := b.clone()
				other.check()
				if turned {
					b, other = other, b
				}
				must(t, first.do(b))
				b.check()
				other.check()
				must(t, then.do(other))
				b.check()
				other.check()
			}
		}
	}
}

// TestCloneNew is P20.1: of a space without schemas; of one with tables; of a clone.
func TestCloneNew(t *testing.T) {
	b := newBoth(t)
	c := b.clone()
	c.check()
	must(t, c.define("p", pText))
	must(t, c.tables(acute, falling))
	b.check()
	d := c.clone()
	d.check()
	must(t, c.put("p", part(t, "(1 x)"), ""))
	must(t, d.define("t", "limit 64\nfield t text strength 1\n"))
	must(t, d.put("t", part(t, `("b")`), ""))
	must(t, d.put("t", part(t, `("a")`), ""))
	e := d.clone()
	want(t, e.tables(acute, rising), fault(api.ErrSpaceKeep))
	must(t, c.tables(acute, rising))
	for _, x := range []string{`("a")`, `("b")`} {
		if is, err := d.remove("t", part(t, x)); !is || err != nil {
			t.Fatal(told(err))
		}
	}
	must(t, d.tables("", ""))
	for _, x := range []both{b, c, d, e} {
		x.check()
	}
	wantScan(t, e, "t", api.Query{}, `("b") ("a")`)
}

// TestRefused is P20.8: whatever is refused changes nothing, neither in the space nor in its clone. (Each call of both looks at that; here all that can be refused is, on one space.)
func TestRefused(t *testing.T) {
	b := cloneBoth(t)
	must(t, b.put("t", part(t, `("a")`), ""))
	must(t, b.put("q", part(t, "(x78 'z' 1)"), ""))
	c := b.clone()
	calls := map[string]func() error{
		"Tables, the first text":   func() error { return b.tables("x", "") },
		"Tables, the second text":  func() error { return b.tables(acute, "x") },
		"Tables, with texts":       func() error { return b.tables(acute, rising) },
		"Define, no name":          func() error { return b.define("Q", pText) },
		"Define, twice":            func() error { return b.define("p", qText) },
		"Define, no schema":        func() error { return b.define("new", "limit 9") },
		"Evolve, not there":        func() error { return b.evolve("new", pText) },
		"Evolve, no schema":        func() error { return b.evolve("p", "limit 9") },
		"Evolve, not fitting":      func() error { return b.evolve("p", qText) },
		"Rekey, not there":         func() error { return b.rekey("new", "p", nil) },
		"Rekey, to none":           func() error { return b.rekey("p", "new", nil) },
		"Rekey, refused":           func() error { return b.rekey("p", "q", from(0)) },
		"Rekey, there already":     func() error { return b.rekey("p", "q", qSources(t)) },
		"Rekey, two alike":         func() error { return b.rekey("p", "p", []api.Source{{}, own(part(t, "x"))}) },
		"Put, not there":           func() error { return b.put("new", part(t, "(1 x)"), "") },
		"Put, too long":            func() error { return b.put("p", part(t, "(1 x78)"), string(make([]byte, 65537))) },
		"Put, no part":             func() error { return b.put("p", api.Part{Kind: 9}, "") },
		"Put, no tuple":            func() error { return b.put("p", part(t, "(1)"), "") },
		"Delete, not there":        func() error { _, err := b.remove("new", part(t, "(1 x78)")); return err },
		"Delete, no tuple":         func() error { _, err := b.remove("p", part(t, "(1)")); return err },
		"Import, not there":        func() error { return b.importKey("new", "\x12\x80\x23\xff\xfe", "") },
		"Import, too long":         func() error { return b.importKey("p", "\x12\x80\x23\xff\xfe", string(make([]byte, 65537))) },
		"Import, no key":           func() error { return b.importKey("p", "\x12\x80\x23\xff", "") },
		"Import, key of no schema": func() error { return b.importKey("p", "", "") },
	}
	for name, call := range calls {
		if call() == nil {
			t.Errorf("%s: no error", name)
		}
		b.check()
		c.check()
	}
}
