package schema

import (
	"fmt"
	"math"
	"math/rand"
	"slices"
	"strings"
	"testing"

	"dovetail/api"
)

// checkCheck holds Check of a schema against the chapter's words.
func checkCheck(t *testing.T, s api.Schema) api.Errno {
	t.Helper()
	why, path, _ := plainCheck(s)
	if err := Check(s); !isFault(err, why, 0, path) {
		t.Fatalf("%+v: %s, not error %d path %v", s, told(err), why, path)
	}
	return why
}

// wantCheck: Check of a schema is that number with that path; and so are Print's.
func wantCheck(t *testing.T, s api.Schema, code api.Errno, path ...int) {
	t.Helper()
	if err := Check(s); !isFault(err, code, 0, path) {
		t.Errorf("%+v: %s, not error %d path %v", s, told(err), code, path)
	}
	if text, err := Print(s); !isFault(err, code, 0, path) || (text == "") != (err != nil) {
		t.Errorf("%+v: printed as %s, %s", s, brief(text), told(err))
	}
	if why, at, _ := plainCheck(s); why != code || !slices.Equal(at, path) {
		t.Errorf("%+v: the words say error %d path %v", s, why, at)
	}
}

// TestCheckExamples is the chapter's table on Check.
func TestCheckExamples(t *testing.T) {
	wantCheck(t, api.Schema{Fields: []api.Field{boolField("a")}}, api.ErrSchemaRange)
	wantCheck(t, of(), api.ErrSchemaEmpty)
	wantCheck(t, of(boolField("A")), api.ErrSchemaName, 0)
	wantCheck(t, of(boolField("a"), boolField("a")), api.ErrSchemaTwice, 1)
	wantCheck(t, of(api.Field{Name: "a", Kind: api.Text, Collate: api.Collate{Strength: 4}}), api.ErrSchemaRange, 0)
	wantCheck(t, of(api.Field{Name: "a", Kind: 9}, tupleField("b")), api.ErrSchemaRange, 0)
	wantCheck(t, of(tupleField("b"), api.Field{Name: "a", Kind: 9}), api.ErrSchemaEmpty, 0)
	wantCheck(t, api.Schema{}, api.ErrSchemaRange)
}

// TestCheckLimit is P11.1: which limits there are, ahead of all else.
func TestCheckLimit(t *testing.T) {
	for limit, code := range map[int]api.Errno{math.MinInt: api.ErrSchemaRange, -1: api.ErrSchemaRange, 0: api.ErrSchemaRange, 1: api.OK, 2: api.OK, 65535: api.OK, 65536: api.OK, 65537: api.ErrSchemaRange, 9999999: api.ErrSchemaRange, math.MaxInt: api.ErrSchemaRange} {
		wantCheck(t, api.Schema{Limit: limit, Fields: []api.Field{boolField("a")}}, code)
		empty, name := api.ErrSchemaEmpty, []int{0}
		if code != api.OK {
			empty, name = code, nil
		}
		wantCheck(t, api.Schema{Limit: limit}, empty)
		wantCheck(t, api.Schema{Limit: limit, Fields: []api.Field{}}, empty)
		if code == api.OK {
			code = api.ErrSchemaName
		}
		wantCheck(t, api.Schema{Limit: limit, Fields: []api.Field{boolField("A")}}, code, name...)
	}
}

// TestCheckNames is P11.1: how long names are, and each byte in them.
func TestCheckNames(t *testing.T) {
	for n := range 40 {
		for _, of1 := range []string{"a", "z", "ab-0"} {
			name := strings.Repeat(of1, n)[:n]
			want, path := api.OK, []int(nil)
			if n == 0 || n > 16 {
				want, path = api.ErrSchemaName, []int{0}
			}
			wantCheck(t, of(boolField(name)), want, path...)
		}
	}
	wantCheck(t, of(boolField(strings.Repeat("a", 1<<20))), api.ErrSchemaName, 0)
	for c := range 256 {
		s := string([]byte{byte(c)})
		first := strings.Contains("abcdefghijklmnopqrstuvwxyz", s)
		later := first || strings.Contains("0123456789-", s)
		for name, is := range map[string]bool{s: first, s + "a": first, s + s: first, "a" + s: later, "a" + s + "b": later, "abcdefghijklmno" + s: later, s + "bcdefghijklmnop": first} {
			want, path := api.OK, []int(nil)
			if !is {
				want, path = api.ErrSchemaName, []int{0}
			}
			wantCheck(t, of(boolField(name)), want, path...)
			if path != nil {
				path = []int{1, 0}
			}
			wantCheck(t, of(boolField("a"), tupleField("t", boolField(name))), want, path...)
		}
	}
}

// TestCheckTwice is P11.1: two of one name in one tuple, and in two.
func TestCheckTwice(t *testing.T) {
	a, b, c := boolField("a"), boolField("b"), boolField("c")
	wantCheck(t, of(a, b, a), api.ErrSchemaTwice, 2)
	wantCheck(t, of(a, b, c, b, a), api.ErrSchemaTwice, 3)
	wantCheck(t, of(a, a, a), api.ErrSchemaTwice, 1)
	wantCheck(t, of(a, api.Field{Name: "a", Kind: api.Int}), api.ErrSchemaTwice, 1)
	wantCheck(t, of(a, boolField("aa"), boolField("a-"), boolField("a0")), api.OK)
	wantCheck(t, of(tupleField("a", a, b), b), api.OK)
	wantCheck(t, of(tupleField("a", tupleField("a", a))), api.OK)
	wantCheck(t, of(tupleField("t", a, b), tupleField("u", a, b)), api.OK)
	wantCheck(t, of(tupleField("t", a, b), tupleField("t", c)), api.ErrSchemaTwice, 1)
	wantCheck(t, of(tupleField("t", a, b, b), tupleField("t", a)), api.ErrSchemaTwice, 0, 2)
	wantCheck(t, of(tupleField("t", a, tupleField("u", c, b, c)), a, a), api.ErrSchemaTwice, 0, 1, 2)
	wantCheck(t, of(append(many(63), boolField("f0"))...), api.ErrSchemaTwice, 63)
	wantCheck(t, of(append(many(63), boolField("f62"))...), api.ErrSchemaTwice, 63)
	wantCheck(t, of(boolField("A"), boolField("A")), api.ErrSchemaName, 0)
}

// TestCheckMany is P11.1: 64 and 65 fields, also where they stand within one another.
func TestCheckMany(t *testing.T) {
	wantCheck(t, of(many(64)...), api.OK)
	wantCheck(t, of(many(65)...), api.ErrSchemaMany, 64)
	wantCheck(t, of(many(100)...), api.ErrSchemaMany, 64)
	wantCheck(t, of(tupleField("t", many(63)...)), api.OK)
	wantCheck(t, of(tupleField("t", many(64)...)), api.ErrSchemaMany, 0, 63)
	wantCheck(t, of(tupleField("t", many(62)...), boolField("a")), api.OK)
	wantCheck(t, of(tupleField("t", many(63)...), boolField("a")), api.ErrSchemaMany, 1)
	wantCheck(t, of(tupleField("t", many(31)...), tupleField("u", many(31)...)), api.OK)
	wantCheck(t, of(tupleField("t", many(31)...), tupleField("u", many(32)...)), api.ErrSchemaMany, 1, 31)
	wantCheck(t, of(tupleField("t", many(31)...), tupleField("u", many(31)...), tupleField("v", boolField("a"))), api.ErrSchemaMany, 2)
	wantCheck(t, of(nested(16, boolField("a")), nested(16, boolField("a"))), api.ErrSchemaTwice, 1)
	fours := []api.Field{nested(16, boolField("a")), nested(16, boolField("a")), nested(16, boolField("a")), nested(16, boolField("a"))}
	for i := range fours {
		fours[i].Name = string([]byte{byte('a' + i)})
	}
	wantCheck(t, of(fours...), api.OK)
	wantCheck(t, of(append(fours, boolField("e"))...), api.ErrSchemaMany, 4)
	wide := of(many(1 << 16)...)
	wantCheckOf(t, wide, api.ErrSchemaMany, 64)
}

// wantCheckOf is wantCheck of what is too great to be told.
func wantCheckOf(t *testing.T, s api.Schema, code api.Errno, path ...int) {
	t.Helper()
	if err := Check(s); !isFault(err, code, 0, path) {
		t.Errorf("%s, not error %d path %v", told(err), code, path)
	}
	if text, err := Print(s); !isFault(err, code, 0, path) || text != "" {
		t.Errorf("printed with %s, not error %d path %v", told(err), code, path)
	}
}

// TestCheckDeep is P11.1: paths of 16 and 17 places.
func TestCheckDeep(t *testing.T) {
	noughts := make([]int, 16)
	wantCheck(t, of(nested(16, boolField("a"))), api.OK)
	wantCheck(t, of(nested(17, boolField("a"))), api.ErrSchemaDeep, append(slices.Clone(noughts), 0)...)
	wantCheck(t, of(nested(18, boolField("a"))), api.ErrSchemaDeep, append(slices.Clone(noughts), 0)...)
	wantCheck(t, of(nested(16, tupleField("d"))), api.ErrSchemaEmpty, noughts...)
	wantCheck(t, of(nested(16, tupleField("d", boolField("A")))), api.ErrSchemaDeep, append(slices.Clone(noughts), 0)...)
	wantCheck(t, of(boolField("a"), nested(15, tupleField("d", boolField("b"), tupleField("c", boolField("x"))))), api.ErrSchemaDeep, append([]int{1}, append(noughts[:14:14], 1, 0)...)...)
	wantCheckOf(t, of(nested(1<<16, boolField("a"))), api.ErrSchemaDeep, make([]int, 17)...)
}

// TestCheckFirst is P11.1: which error comes first where there are several of one field, and of several fields.
func TestCheckFirst(t *testing.T) {
	seventeen := make([]int, 17)
	none := tupleField("d")
	none.Most = 1
	wantCheck(t, of(none), api.ErrSchemaRange, 0)                                      // Range ahead of Empty
	wantCheck(t, of(boolField("d"), none), api.ErrSchemaTwice, 1)                      // Twice ahead of Range
	wantCheck(t, of(boolField("d"), tupleField("d")), api.ErrSchemaTwice, 1)           // and of Empty
	wantCheck(t, of(boolField("D"), boolField("D")), api.ErrSchemaName, 0)             // Name ahead of Twice
	wantCheck(t, of(boolField("a"), api.Field{Name: "D"}), api.ErrSchemaName, 1)       // and of Range
	wantCheck(t, of(boolField("a"), tupleField("")), api.ErrSchemaName, 1)             // and of Empty
	wantCheck(t, of(nested(17, boolField(""))), api.ErrSchemaDeep, seventeen...)       // Deep ahead of Name
	wantCheck(t, of(nested(17, none)), api.ErrSchemaDeep, seventeen...)                // and of Range
	wantCheck(t, of(nested(17, tupleField("x"))), api.ErrSchemaDeep, seventeen...)     // and of Empty
	wantCheck(t, of(append(many(64), boolField(""))...), api.ErrSchemaMany, 64)        // Many ahead of Name
	wantCheck(t, of(append(many(64), boolField("f0"))...), api.ErrSchemaMany, 64)      // and of Twice
	wantCheck(t, of(append(many(64), none)...), api.ErrSchemaMany, 64)                 // and of Range
	wantCheck(t, of(append(many(64), tupleField("x"))...), api.ErrSchemaMany, 64)      // and of Empty
	wantCheck(t, of(append(many(48), nested(16, tupleField("x", boolField("a"))))...), // and of Deep
		api.ErrSchemaMany, append([]int{48}, make([]int, 16)...)...)
	wantCheck(t, of(append(many(47), nested(16, tupleField("x", boolField("a"))))...), api.ErrSchemaDeep, append([]int{47}, make([]int, 16)...)...)
	// an earlier field's error is ahead of a later one's, and a tuple's own ahead of those within it
	wantCheck(t, of(append(many(63), append([]api.Field{tupleField("x")}, many(9)...)...)...), api.ErrSchemaEmpty, 63)
	wantCheck(t, of(tupleField("T", boolField("a"), boolField("a"))), api.ErrSchemaName, 0)
	wantCheck(t, of(tupleField("t", boolField("A")), boolField("t")), api.ErrSchemaName, 0, 0)
	wantCheck(t, of(tupleField("t", many(70)...), boolField("A")), api.ErrSchemaMany, 0, 63)
	wantCheck(t, of(boolField("A"), tupleField("t", many(70)...)), api.ErrSchemaName, 0)
	// what is no tuple has none that are gone through
	wantCheck(t, of(api.Field{Name: "a", Kind: api.Bool, Fields: []api.Field{boolField("A")}}), api.ErrSchemaRange, 0)
	wantCheck(t, of(api.Field{Name: "a", Kind: api.Bool, Fields: many(70)}), api.ErrSchemaRange, 0)
	wantCheck(t, api.Schema{Limit: 0, Fields: many(70)}, api.ErrSchemaRange)
}

// TestCheckSays is P11.1: what each kind may say, with each other field zero and not zero.
func TestCheckSays(t *testing.T) {
	nums := []api.Num{{}, num(5), num(-5), {Below: true}, {Mag: "\x00"}}
	lists := [][]api.Field{nil, {}, {boolField("x")}}
	seen := map[string]int{}
	for _, k := range []api.Kind{0, 1, 2, 3, 4, 5, 6, 7, 8, 9, 255} {
		for _, nulls := range []api.Nulls{0, 1, 2, 3, 255} {
			for _, low := range nums {
				for _, high := range nums {
					for _, most := range []int{math.MinInt, -1, 0, 1, 65536, 65537, math.MaxInt} {
						for i, fields := range lists {
							for bits := range 16 {
								f := api.Field{Name: "a", Kind: k, Nulls: nulls, Low: low, High: high, Most: most, Fields: fields}
								f.Bounded, f.Down = bits&1 != 0, bits&2 != 0
								if bits&4 != 0 {
									f.Collate = api.Collate{Strength: 2, Back: bits&8 != 0}
								} else {
									f.Collate.Shifted = bits&8 != 0
								}
								seen[fmt.Sprint(k, checkCheck(t, of(f)), i)]++
							}
						}
					}
				}
			}
		}
	}
	for k := 1; k <= 7; k++ {
		right := seen[fmt.Sprint(k, api.OK, 0)]
		if k == int(api.Tuple) {
			right = seen[fmt.Sprint(k, api.OK, 2)]
		}
		if right == 0 || seen[fmt.Sprint(k, api.ErrSchemaRange, 0)] == 0 {
			t.Errorf("kind %d was not asked for both: %v", k, seen)
		}
	}
}

// TestCheckCollate is P11.1: strengths with and without Shifted.
func TestCheckCollate(t *testing.T) {
	for _, strength := range []int{math.MinInt, -4, -1, 0, 1, 2, 3, 4, 5, 6, 8, 260, 1<<32 + 1, math.MaxInt} {
		for bits := range 4 {
			c := api.Collate{Strength: strength, Shifted: bits&1 != 0, Back: bits&2 != 0}
			want, path := api.ErrSchemaRange, []int{0}
			if strength >= 1 && strength <= 3 || strength == 4 && c.Shifted {
				want, path = api.OK, nil
			}
			wantCheck(t, of(api.Field{Name: "a", Kind: api.Text, Collate: c}), want, path...)
		}
	}
}

// TestCheckMost is P11.1: how many bytes there may be at most.
func TestCheckMost(t *testing.T) {
	for most, is := range map[int]bool{math.MinInt: false, -65536: false, -1: false, 0: true, 1: true, 65535: true, 65536: true, 65537: false, 9999999: false, 1 << 32: false, math.MaxInt: false} {
		for _, k := range []api.Kind{api.Bytes, api.Name} {
			want, path := api.ErrSchemaRange, []int{0}
			if is {
				want, path = api.OK, nil
			}
			wantCheck(t, of(api.Field{Name: "a", Kind: k, Most: most}), want, path...)
		}
	}
}

// TestCheckBounds is P11.1: Low above High, and what is no number.
func TestCheckBounds(t *testing.T) {
	long := strings.Repeat("\xff", 255)
	rising := []api.Num{{Below: true, Mag: long}, {Below: true, Mag: "\x01" + long[:254]}, num(-256), num(-255), num(-1), num(0), num(1), num(255), num(256), {Mag: "\x01" + long[:254]}, {Mag: long}}
	for i, low := range rising {
		for k, high := range rising {
			if i <= k {
				wantCheck(t, of(bounded("a", low, high)), api.OK)
			} else {
				wantCheck(t, of(bounded("a", low, high)), api.ErrSchemaRange, 0)
			}
		}
	}
	for _, bad := range []api.Num{{Below: true}, {Mag: "\x00"}, {Mag: "\x00\x01"}, {Below: true, Mag: "\x00"}, {Mag: "\x01" + long}, {Below: true, Mag: "\x01" + long}, {Mag: "\x00" + long}, {Mag: strings.Repeat("\x01", 1<<20)}} {
		wantCheckOf(t, of(bounded("a", bad, num(5))), api.ErrSchemaRange, 0)
		wantCheckOf(t, of(bounded("a", num(-5), bad)), api.ErrSchemaRange, 0)
		wantCheckOf(t, of(bounded("a", bad, bad)), api.ErrSchemaRange, 0)
		wantCheckOf(t, of(api.Field{Name: "a", Kind: api.Int, Low: bad}), api.ErrSchemaRange, 0)
		wantCheckOf(t, of(api.Field{Name: "a", Kind: api.Int, High: bad}), api.ErrSchemaRange, 0)
	}
	wantCheck(t, of(api.Field{Name: "a", Kind: api.Int, Low: num(1), High: num(1)}), api.ErrSchemaRange, 0)
	wantCheck(t, of(api.Field{Name: "a", Kind: api.Int, Bounded: true}), api.OK)
	wantCheck(t, of(api.Field{Name: "a", Kind: api.Int}), api.OK)
}

// TestCheckEmpty is P11.1: a tuple without fields, and lists without elements.
func TestCheckEmpty(t *testing.T) {
	wantCheck(t, of(tupleField("t")), api.ErrSchemaEmpty, 0)
	wantCheck(t, of(api.Field{Name: "t", Kind: api.Tuple, Fields: []api.Field{}}), api.ErrSchemaEmpty, 0)
	wantCheck(t, of(boolField("a"), tupleField("t", boolField("a"), tupleField("u"))), api.ErrSchemaEmpty, 1, 1)
	for k := api.Bool; k < api.Text; k++ {
		wantCheck(t, of(api.Field{Name: "a", Kind: k, Fields: []api.Field{}}), api.OK)
		wantCheck(t, of(api.Field{Name: "a", Kind: k, Fields: make([]api.Field, 0, 9)}), api.OK)
		wantCheck(t, of(api.Field{Name: "a", Kind: k, Fields: []api.Field{boolField("a")}}), api.ErrSchemaRange, 0)
	}
}

// TestCheckMixed is P11.1: schemas of every shape, with a few things changed.
func TestCheckMixed(t *testing.T) {
	r := rand.New(rand.NewSource(111))
	seen := map[api.Errno]int{}
	for range 3000 {
		s := rightSchema(r)
		if checkCheck(t, s) != api.OK {
			t.Fatalf("%+v is not right", s)
		}
		for range 5 {
			seen[checkCheck(t, s)]++
			s = changed(r, s)
		}
	}
	for _, e := range []api.Errno{api.OK, api.ErrSchemaName, api.ErrSchemaTwice, api.ErrSchemaRange, api.ErrSchemaDeep, api.ErrSchemaEmpty, api.ErrSchemaMany} {
		if seen[e] < 20 {
			t.Errorf("not all of it was asked: %v", seen)
		}
	}
}

// TestCheckEnds is R1: fields that have others very many times over are given up soon.
func TestCheckEnds(t *testing.T) {
	fields := many(2)
	for range 15 {
		fields = []api.Field{tupleField("a", fields...), tupleField("b", fields...)}
	}
	wantCheckOf(t, of(fields...), api.ErrSchemaMany, plainPathOf(65, 2)...)
	wide := many(64)
	for range 30 {
		for i := range wide {
			wide[i] = tupleField(wide[i].Name, slices.Clone(wide)...)
		}
	}
	if err := Check(of(wide...)); err == nil {
		t.Error("no error")
	}
	if l := Paths(of(wide...)); len(l) != 0 {
		t.Errorf("%d paths", len(l))
	}
}

// plainPathOf is the path of the nth field, where each tuple has that many, 16 deep.
func plainPathOf(nth, wide int) []int {
	path := []int{}
	var walk func(deep int) bool
	walk = func(deep int) bool {
		for i := range wide {
			path = append(path, i)
			nth--
			if nth == 0 || deep < 16 && walk(deep+1) {
				return true
			}
			path = path[:len(path)-1]
		}
		return false
	}
	walk(1)
	return path
}

// TestGivenUp: what the package does not know is no fault of a schema's.
func TestGivenUp(t *testing.T) {
	defer func() {
		if why := recover(); why != "other" {
			t.Error(why)
		}
	}()
	givenUp(func() { panic("other") })
	t.Error("it was held for a fault")
}
