package shelf_test

import (
	"math/rand"
	"slices"
	"strconv"
	"testing"

	"dovetail/api"
)

// TestClone is P19.4: the same pairs, and each change of the one or the other is its own.
func TestClone(t *testing.T) {
	for _, c := range changes() {
		for _, turned := range []bool{false, true} {
			b := bothOf(t, "f", "b", "j", "d", "h")
			other := b.clone()
			if other.s == b.s || other.s == nil {
				t.Fatal("no other one")
			}
			other.check()
			if turned {
				b, other = other, b
			}
			c.do(b, "d")
			b.check("a", "b", "d", "f")
			other.check("a", "b", "d", "f", "", "\xff", "e")
			c.do(other, "h")
			b.check("h")
			other.check("h")
		}
	}
}

// TestCloneNone is P19.4: of a shelf without pairs; of one that is emptied; of a clone.
func TestCloneNone(t *testing.T) {
	b := newBoth(t)
	c := b.clone()
	c.check("a")
	c.put("a", "1")
	b.check("a")
	d := c.clone()
	c.delete("a")
	c.check("a")
	d.check("a")
	e := c.clone()
	e.check("a")
	e.put("", "2")
	c.check("", "a")
	d.delete("a")
	b.put("a", "3")
	for _, x := range []both{b, c, d, e} {
		x.check("", "a")
	}
}

// TestCloneRange is P19.4 with P19.3: what is done to either one within a range over the other, and clones that are made within a range.
func TestCloneRange(t *testing.T) {
	for _, c := range changes() {
		for _, back := range []bool{false, true} {
			b := bothOf(t, "f", "b", "j", "d", "h")
			other := b.clone()
			want := b.p.scan(all(), back)
			var told []api.Pair
			var made []both
			for p := range b.s.Scan(all(), back) {
				told = append(told, p)
				c.do(other, p.Key)
				b.check()
				other.check()
				made = append(made, b.clone())
				c.do(b, p.Key)
				made = append(made, b.clone(), other.clone())
				for _, m := range made {
					m.check()
				}
			}
			if !slices.Equal(told, want) {
				t.Fatalf("%s: told %s", c.name, keysOf(told))
			}
			for _, m := range append(made, b, other) {
				m.check("b", "d", "e")
			}
		}
	}
}

// TestCloneRandom is P19.4: a family of clones of clones, each changed by turns.
func TestCloneRandom(t *testing.T) {
	r := rand.New(rand.NewSource(195))
	for range 20 {
		family := []both{newBoth(t)}
		for i := range 600 {
			b := family[r.Intn(len(family))]
			switch n := r.Intn(12); {
			case n < 7:
				b.put(someKey(r, 3), strconv.Itoa(i))
			case n < 11:
				b.delete(someKey(r, 3))
			case len(family) < 12:
				family = append(family, b.clone())
			default:
				family[r.Intn(len(family))] = b.clone()
			}
			if i%40 == 0 {
				for _, b := range family {
					b.check()
				}
			}
		}
		for _, b := range family {
			b.check()
		}
	}
}
