package value

import (
	"errors"
	"fmt"
	"math"
	"math/rand"
	"reflect"
	"slices"
	"strconv"
	"strings"
	"testing"

	"dovetail/api"
)

// nested is a part with that many tuples about it.
func nested(n int, p api.Part) api.Part {
	for range n {
		p = api.Part{Kind: api.Tuple, Items: []api.Part{p}}
	}
	return p
}

func tupleOfParts(items ...api.Part) api.Part { return api.Part{Kind: api.Tuple, Items: items} }

// must is the value of a part that may be.
func must(t *testing.T, p api.Part) Value {
	t.Helper()
	v, e := Make(p)
	if e != api.OK {
		t.Fatalf("%s: error %d", brief(p), e)
	}
	return v
}

// brief is a part or a value as a test tells it: as much as fits a line.
func brief(x any) string {
	s := fmt.Sprintf("%v", x)
	return strconv.Quote(s[:min(len(s), 160)])
}

// plainDepth is the chapter's words on how deep a part is; it is asked of parts with an end alone.
func plainDepth(p api.Part) int {
	if p.Kind != api.Tuple {
		return 0
	}
	deepest := 0
	for _, item := range p.Items {
		deepest = max(deepest, plainDepth(item))
	}
	return deepest + 1
}

// plainNumber is chapter 2's words on which numbers may be.
func plainNumber(n api.Num) bool {
	if len(n.Mag) == 0 {
		return !n.Below
	}
	return len(n.Mag) <= 255 && n.Mag[0] != 0
}

// plainMayBe is the chapter's words on which parts may be, kind by kind.
func plainMayBe(p api.Part) bool {
	yes, num, raw, items := p.Yes, p.Num != api.Num{}, p.Raw != "", len(p.Items) > 0
	switch p.Kind {
	case 0:
		return !yes && !num && !raw && !items
	case 1:
		return !num && !raw && !items
	case 2:
		return !yes && !raw && !items && plainNumber(p.Num)
	case 3, 5, 6:
		return !yes && !num && !items && len(p.Raw) <= 65536
	case 4:
		return !yes && !num && !items && len(p.Raw) == 16
	case 7:
		if yes || num || raw || len(p.Items) > 1024 {
			return false
		}
		for _, item := range p.Items {
			if !plainMayBe(item) {
				return false
			}
		}
		return true
	}
	return false
}

// plainError is what Make is to answer of a part.
func plainError(p api.Part) api.Errno {
	switch {
	case plainDepth(p) > 16:
		return api.ErrValueDeep
	case !plainMayBe(p):
		return api.ErrValueForm
	}
	return api.OK
}

// sameParts tells whether two parts are the same; a list without elements may be nil or not.
func sameParts(a, b api.Part) bool {
	if a.Kind != b.Kind || a.Yes != b.Yes || a.Num != b.Num || a.Raw != b.Raw || len(a.Items) != len(b.Items) {
		return false
	}
	for i := range a.Items {
		if !sameParts(a.Items[i], b.Items[i]) {
			return false
		}
	}
	return true
}

// copied is a part in memory of its own.
func copied(p api.Part) api.Part {
	p.Items = slices.Clone(p.Items)
	for i := range p.Items {
		p.Items[i] = copied(p.Items[i])
	}
	return p
}

func someNumbers() []api.Num {
	return []api.Num{{}, {Mag: "\x01"}, {Below: true, Mag: "\x01"}, {Mag: "\x01\x00"}, {Mag: "\xff"}, {Below: true},
		{Mag: "\x00"}, {Mag: "\x00\x01"}, {Mag: strings.Repeat("\x01", 255)}, {Below: true, Mag: strings.Repeat("\xff", 255)},
		{Mag: strings.Repeat("\x01", 256)}, {Below: true, Mag: strings.Repeat("\x01", 256)}}
}

func someBytes() []string {
	return []string{"", "a", "b", "\x00", "\xff\xfe", "ab", strings.Repeat("a", 15), strings.Repeat("a", 16), strings.Repeat("b", 16),
		strings.Repeat("\x00", 16), strings.Repeat("a", 17), strings.Repeat("a", 65535), strings.Repeat("a", 65536),
		strings.Repeat("a", 65537), strings.Repeat("\xff", 65536)}
}

func someItems() [][]api.Part {
	one := api.Part{Kind: api.Int, Num: api.Num{Mag: "\x01"}}
	bad := api.Part{Kind: 8}
	return [][]api.Part{nil, {}, {{}}, {{}, {}}, {one}, {one, {}}, {{}, one}, {bad}, {one, bad}, {bad, one}, {{Yes: true}},
		{{Kind: api.Bool, Yes: true}, {Kind: api.Bool}}, {tupleOfParts(one), tupleOfParts()}, {tupleOfParts(bad)}, {tupleOfParts(one, tupleOfParts(bad))},
		make([]api.Part, 1023), make([]api.Part, 1024), make([]api.Part, 1025), {tupleOfParts(make([]api.Part, 1024)...)},
		{tupleOfParts(make([]api.Part, 1025)...)}, make([]api.Part, 70000), {nested(14, one)}, {nested(15, one)}, {nested(16, one)}, {nested(17, one)}}
}

// someParts are parts of every shape, most of which may not be.
func someParts() []api.Part {
	numbers, texts, lists := someNumbers(), someBytes(), someItems()
	var all []api.Part
	for _, k := range []api.Kind{0, 1, 2, 3, 4, 5, 6, 7, 8, 9, 16, 128, 255} {
		for _, yes := range []bool{false, true} {
			for _, num := range numbers {
				for _, raw := range texts {
					for _, items := range lists {
						all = append(all, api.Part{Kind: k, Yes: yes, Num: num, Raw: raw, Items: items})
					}
				}
			}
		}
	}
	return all
}

// goodParts are parts that may be: one of each shape, and random ones.
func goodParts() []api.Part {
	all := []api.Part{{}, {Kind: api.Bool}, {Kind: api.Bool, Yes: true}}
	for _, num := range someNumbers() {
		all = append(all, api.Part{Kind: api.Int, Num: num})
	}
	for _, raw := range someBytes() {
		for _, k := range []api.Kind{api.Bytes, api.ID, api.Name, api.Text} {
			all = append(all, api.Part{Kind: k, Raw: raw})
		}
	}
	for _, items := range someItems() {
		all = append(all, tupleOfParts(items...))
	}
	all = slices.DeleteFunc(all, func(p api.Part) bool { return plainError(p) != api.OK })
	r := rand.New(rand.NewSource(9))
	for range 60 {
		all = append(all, randomPart(r, 4))
	}
	return all
}

func randomPart(r *rand.Rand, deep int) api.Part {
	p := api.Part{Kind: api.Kind(r.Intn(8))}
	switch p.Kind {
	case api.Bool:
		p.Yes = r.Intn(2) == 1
	case api.Int:
		p.Num = []api.Num{{}, {Mag: "\x07"}, {Below: true, Mag: "\x07"}}[r.Intn(3)]
	case api.ID:
		p.Raw = strings.Repeat(string(rune('a'+r.Intn(2))), 16)
	case api.Bytes, api.Name, api.Text:
		p.Raw = strings.Repeat("x", r.Intn(3))
	case api.Tuple:
		for range r.Intn(4) {
			if deep == 0 {
				break
			}
			p.Items = append(p.Items, randomPart(r, deep-1))
		}
	}
	return p
}

// TestMake is P9.1: what is answered of parts of every shape, those that have what their kind does not have among them.
func TestMake(t *testing.T) {
	seen := map[api.Errno]int{}
	for _, p := range someParts() {
		v, e := Make(p)
		if want := plainError(p); e != want {
			t.Fatalf("kind %d, yes %t, %d bytes of a number, %d bytes, %d items: error %d, not %d", p.Kind, p.Yes, len(p.Num.Mag), len(p.Raw), len(p.Items), e, want)
		}
		seen[e]++
		switch {
		case (e != api.OK || p.Kind == api.Null) && v != nil:
			t.Fatalf("%d, error %d: a value", p.Kind, e)
		case e == api.OK && p.Kind != api.Null && (v == nil || v.Kind() != p.Kind || !sameParts(v.Part(), p)):
			t.Fatalf("%d: another value", p.Kind)
		}
	}
	if seen[api.OK] == 0 || seen[api.ErrValueForm] == 0 || seen[api.ErrValueDeep] == 0 {
		t.Errorf("not all of it was asked: %v", seen)
	}
	for k := range 256 {
		if _, e := Make(api.Part{Kind: api.Kind(k)}); (e == api.OK) != (k < 8 && k != 4) {
			t.Errorf("kind %d and nothing else: error %d", k, e)
		}
	}
}

// TestMakeEdges is P9.1: the numbers that the chapter names, one by one.
func TestMakeEdges(t *testing.T) {
	for _, c := range []struct {
		say  string
		part api.Part
		want api.Errno
	}{
		{"null", api.Part{}, api.OK},
		{"null, with a list of none", api.Part{Items: []api.Part{}}, api.OK},
		{"null with yes", api.Part{Yes: true}, api.ErrValueForm},
		{"null with a number", api.Part{Num: api.Num{Mag: "\x01"}}, api.ErrValueForm},
		{"null with a number that is none", api.Part{Num: api.Num{Below: true}}, api.ErrValueForm},
		{"null with bytes", api.Part{Raw: "a"}, api.ErrValueForm},
		{"null with items", api.Part{Items: make([]api.Part, 1)}, api.ErrValueForm},
		{"no with 16 bytes", api.Part{Kind: api.Bool, Raw: strings.Repeat("a", 16)}, api.ErrValueForm},
		{"a number with yes", api.Part{Kind: api.Int, Yes: true}, api.ErrValueForm},
		{"0", api.Part{Kind: api.Int}, api.OK},
		{"below 0 and no bytes", api.Part{Kind: api.Int, Num: api.Num{Below: true}}, api.ErrValueForm},
		{"255 bytes", api.Part{Kind: api.Int, Num: api.Num{Mag: strings.Repeat("\x01", 255)}}, api.OK},
		{"256 bytes", api.Part{Kind: api.Int, Num: api.Num{Mag: strings.Repeat("\x01", 256)}}, api.ErrValueForm},
		{"00 ahead", api.Part{Kind: api.Int, Num: api.Num{Mag: "\x00\x01"}}, api.ErrValueForm},
		{"no bytes", api.Part{Kind: api.Bytes}, api.OK},
		{"65536 bytes", api.Part{Kind: api.Bytes, Raw: strings.Repeat("a", 65536)}, api.OK},
		{"65537 bytes", api.Part{Kind: api.Bytes, Raw: strings.Repeat("a", 65537)}, api.ErrValueForm},
		{"a name of 65536 bytes", api.Part{Kind: api.Name, Raw: strings.Repeat("\xff", 65536)}, api.OK},
		{"a name of 65537 bytes", api.Part{Kind: api.Name, Raw: strings.Repeat("a", 65537)}, api.ErrValueForm},
		{"a text of 65536 bytes", api.Part{Kind: api.Text, Raw: strings.Repeat("\xc3", 65536)}, api.OK},
		{"a text of 65537 bytes", api.Part{Kind: api.Text, Raw: strings.Repeat("a", 65537)}, api.ErrValueForm},
		{"an ID of none", api.Part{Kind: api.ID}, api.ErrValueForm},
		{"an ID of 15", api.Part{Kind: api.ID, Raw: strings.Repeat("a", 15)}, api.ErrValueForm},
		{"an ID of 16", api.Part{Kind: api.ID, Raw: strings.Repeat("a", 16)}, api.OK},
		{"an ID of 17", api.Part{Kind: api.ID, Raw: strings.Repeat("a", 17)}, api.ErrValueForm},
		{"a tuple of none", api.Part{Kind: api.Tuple}, api.OK},
		{"1024 items", tupleOfParts(make([]api.Part, 1024)...), api.OK},
		{"1025 items", tupleOfParts(make([]api.Part, 1025)...), api.ErrValueForm},
		{"1024 items, the last of which may not be", tupleOfParts(append(make([]api.Part, 1023), api.Part{Kind: 8})...), api.ErrValueForm},
		{"a million items", tupleOfParts(make([]api.Part, 1_000_000)...), api.ErrValueForm},
		{"a million bytes", api.Part{Kind: api.Bytes, Raw: strings.Repeat("a", 1_000_000)}, api.ErrValueForm},
		{"a tuple with bytes", api.Part{Kind: api.Tuple, Raw: "a"}, api.ErrValueForm},
		{"a tuple with yes", api.Part{Kind: api.Tuple, Yes: true}, api.ErrValueForm},
		{"a tuple with a number", api.Part{Kind: api.Tuple, Num: api.Num{Mag: "\x01"}}, api.ErrValueForm},
	} {
		if v, e := Make(c.part); e != c.want || (v == nil) != (e != api.OK || c.part.Kind == api.Null) {
			t.Errorf("%s: error %d, not %d", c.say, e, c.want)
		}
	}
}

// TestMakeDeep is P9.1: too deep comes first, whatever else may not be, and wherever it stands.
func TestMakeDeep(t *testing.T) {
	one, bad := api.Part{Kind: api.Int, Num: api.Num{Mag: "\x01"}}, api.Part{Kind: 9}
	within := api.Part{Kind: api.Int, Items: []api.Part{nested(30, api.Part{})}}
	round := make([]api.Part, 1)
	round[0] = tupleOfParts(round...)
	many := make([]api.Part, 1025)
	many[1024] = nested(16, one)
	for _, c := range []struct {
		say  string
		part api.Part
		want api.Errno
	}{
		{"16, an item within", nested(16, one), api.OK},
		{"16, none within", nested(15, tupleOfParts()), api.OK},
		{"17, none within", nested(16, tupleOfParts()), api.ErrValueDeep},
		{"17, null within", nested(17, api.Part{}), api.ErrValueDeep},
		{"17, what may not be within", nested(17, bad), api.ErrValueDeep},
		{"16, what may not be within", nested(16, bad), api.ErrValueForm},
		{"17 at the end", tupleOfParts(one, tupleOfParts(), nested(16, one)), api.ErrValueDeep},
		{"17 behind what may not be", tupleOfParts(bad, nested(16, one)), api.ErrValueDeep},
		{"17 ahead of what may not be", tupleOfParts(nested(16, one), bad), api.ErrValueDeep},
		{"17 and yes", api.Part{Kind: api.Tuple, Yes: true, Items: []api.Part{nested(16, one)}}, api.ErrValueDeep},
		{"17 at the end of 1025", api.Part{Kind: api.Tuple, Items: many}, api.ErrValueDeep},
		{"tuples in a number", within, api.ErrValueForm},
		{"tuples in a number, 16 about it", nested(16, within), api.ErrValueForm},
		{"tuples in what is of no kind", api.Part{Kind: 8, Items: []api.Part{nested(30, api.Part{})}}, api.ErrValueForm},
		{"65536", nested(65536, one), api.ErrValueDeep},
		{"65536 with a number about them", api.Part{Kind: api.Int, Items: []api.Part{nested(65535, one)}}, api.ErrValueForm},
		{"itself within", tupleOfParts(round...), api.ErrValueDeep},
	} {
		if v, e := Make(c.part); e != c.want || (v == nil) != (e != api.OK) {
			t.Errorf("%s: error %d, not %d", c.say, e, c.want)
		}
	}
}

// TestMethods is P9.2: what each kind of value tells.
func TestMethods(t *testing.T) {
	for _, p := range goodParts() {
		v := must(t, p)
		if p.Kind == api.Null {
			if v != nil {
				t.Fatal("null holds something")
			}
			continue
		}
		if v.Kind() != p.Kind || !sameParts(v.Part(), p) {
			t.Fatalf("%s: kind %d, part %s", brief(p), v.Kind(), brief(v.Part()))
		}
		switch x := v.(type) {
		case Number:
			if x.Num() != p.Num {
				t.Errorf("%s: the number %v", brief(p), x.Num())
			}
		case Raw:
			if x.Bytes() != p.Raw {
				t.Errorf("%s: the bytes %s", brief(p), brief(x.Bytes()))
			}
		case List:
			checkItems(t, x, p.Items)
		}
	}
}

// checkItems: how many items a list has, what they are, and nil at places that are none.
func checkItems(t *testing.T, l List, items []api.Part) {
	t.Helper()
	if l.Len() != len(items) {
		t.Fatalf("%d items, not %d", l.Len(), len(items))
	}
	for i, p := range items {
		if v := l.At(i); (v == nil) != (p.Kind == api.Null) || !sameParts(Tell(v), p) {
			t.Errorf("item %d: %s, not %s", i, brief(v), brief(p))
		}
	}
	for _, i := range []int{-1, -2, len(items), len(items) + 1, 1024, math.MinInt, math.MaxInt} {
		if i >= len(items) || i < 0 {
			if v := l.At(i); v != nil {
				t.Errorf("place %d of %d: %s", i, len(items), brief(v))
			}
		}
	}
}

// TestTell is P9.3: the part, also of null.
func TestTell(t *testing.T) {
	if p := Tell(nil); !reflect.DeepEqual(p, api.Part{}) {
		t.Errorf("null: %s", brief(p))
	}
	for _, p := range goodParts() {
		if v := must(t, p); !sameParts(Tell(v), p) {
			t.Errorf("%s: %s", brief(p), brief(Tell(v)))
		}
	}
}

// TestTellIsClean is P9.2 and P9.3: what a kind does not have is zero in what is told.
func TestTellIsClean(t *testing.T) {
	for _, p := range goodParts() {
		if told := Tell(must(t, p)); !plainMayBe(told) || p.Kind != api.Tuple && told.Items != nil {
			t.Errorf("%s: %s", brief(p), brief(told))
		}
	}
}

// TestOf is P9.4: tuples of any values, in their order.
func TestOf(t *testing.T) {
	var values []Value
	for _, p := range goodParts() {
		values = append(values, must(t, p))
	}
	r := rand.New(rand.NewSource(4))
	for range 2000 {
		var items []Value
		var parts []api.Part
		for range r.Intn(5) {
			v := values[r.Intn(len(values))]
			items, parts = append(items, v), append(parts, Tell(v))
		}
		whole := tupleOfParts(parts...)
		l, e := Of(items...)
		if want := plainError(whole); e != want {
			t.Fatalf("%s: error %d, not %d", brief(whole), e, want)
		}
		if e != api.OK {
			if l != nil {
				t.Fatalf("error %d and a list", e)
			}
			continue
		}
		if l.Kind() != api.Tuple || !sameParts(l.Part(), whole) || !Same(l, must(t, whole)) || Depth(l) != plainDepth(whole) {
			t.Fatalf("%s: %s", brief(whole), brief(l.Part()))
		}
		checkItems(t, l, parts)
	}
}

// TestOfEdges is P9.4: how many, how deep, and which of the two is said.
func TestOfEdges(t *testing.T) {
	fifteen, sixteen := must(t, nested(15, api.Part{})), must(t, nested(16, api.Part{}))
	list := func(n int, last Value) []Value {
		items := make([]Value, n)
		items[n-1] = last
		return items
	}
	for _, c := range []struct {
		say   string
		items []Value
		want  api.Errno
	}{
		{"none", nil, api.OK},
		{"a list of none", []Value{}, api.OK},
		{"null", []Value{nil}, api.OK},
		{"1023", make([]Value, 1023), api.OK},
		{"1024", make([]Value, 1024), api.OK},
		{"1025", make([]Value, 1025), api.ErrLong},
		{"a million", make([]Value, 1_000_000), api.ErrLong},
		{"16 deep", []Value{fifteen}, api.OK},
		{"17 deep", []Value{sixteen}, api.ErrValueDeep},
		{"17 deep at the end", []Value{nil, fifteen, sixteen}, api.ErrValueDeep},
		{"17 deep at the beginning", []Value{sixteen, fifteen, nil}, api.ErrValueDeep},
		{"1024, 16 deep", list(1024, fifteen), api.OK},
		{"1024, 17 deep", list(1024, sixteen), api.ErrValueDeep},
		{"1025, 17 deep", list(1025, sixteen), api.ErrLong},
	} {
		l, e := Of(c.items...)
		if e != c.want || (l == nil) != (e != api.OK) {
			t.Errorf("%s: error %d, not %d", c.say, e, c.want)
		}
		if l != nil && l.Len() != len(c.items) {
			t.Errorf("%s: %d items", c.say, l.Len())
		}
	}
}

// TestOfOneManyTimes is P9.4 and P9.5 with R1: a tuple that has another one 1024 times over, which has another one 1024 times over, and so on, is no more work than its lists.
func TestOfOneManyTimes(t *testing.T) {
	var v Value
	for deep := 1; deep <= 16; deep++ {
		l, e := Of(slices.Repeat([]Value{v}, 1024)...)
		if e != api.OK || Depth(l) != deep || l.Len() != 1024 || !Same(l, l) || deep > 1 && !Same(l.At(0), l.At(1023)) {
			t.Fatalf("%d deep: error %d", deep, e)
		}
		v = l
	}
	if l, e := Of(v); l != nil || e != api.ErrValueDeep {
		t.Errorf("17 deep: error %d", e)
	}
}

// TestSame is P9.5 and P9.8: Same of two values is whether what they tell is the same.
func TestSame(t *testing.T) {
	var values []Value
	parts := goodParts()
	for _, p := range parts {
		values = append(values, must(t, p))
	}
	yes := 0
	for i, a := range values {
		for k, b := range values {
			want := sameParts(parts[i], parts[k])
			if Same(a, b) != want || want != sameParts(Tell(a), Tell(b)) {
				t.Fatalf("%s, %s: %t", brief(parts[i]), brief(parts[k]), !want)
			}
			if want {
				yes++
			}
		}
		if !Same(a, must(t, copied(parts[i]))) {
			t.Fatalf("%s is not the same as another one made of it", brief(parts[i]))
		}
	}
	if yes <= len(values) || yes > len(values)*len(values)/4 {
		t.Errorf("%d of %d values are the same", yes, len(values))
	}
}

// TestSameEdges is P9.5: values that are nearly the same.
func TestSameEdges(t *testing.T) {
	one := api.Part{Kind: api.Int, Num: api.Num{Mag: "\x01"}}
	less := api.Part{Kind: api.Int, Num: api.Num{Below: true, Mag: "\x01"}}
	id := strings.Repeat("a", 16)
	different := []api.Part{{}, {Kind: api.Bool}, {Kind: api.Bool, Yes: true}, {Kind: api.Int}, one, less, {Kind: api.Int, Num: api.Num{Mag: "\x01\x00"}},
		{Kind: api.Bytes}, {Kind: api.Name}, {Kind: api.Text}, {Kind: api.Bytes, Raw: id}, {Kind: api.ID, Raw: id}, {Kind: api.Name, Raw: id}, {Kind: api.Text, Raw: id},
		{Kind: api.Text, Raw: "\xc3\xa1"}, {Kind: api.Text, Raw: "a\xcc\x81"}, {Kind: api.Bytes, Raw: "a"}, {Kind: api.Bytes, Raw: "a\x00"},
		tupleOfParts(), tupleOfParts(api.Part{}), tupleOfParts(api.Part{}, api.Part{}), tupleOfParts(tupleOfParts()), tupleOfParts(one), tupleOfParts(one, api.Part{}),
		tupleOfParts(api.Part{}, one), tupleOfParts(one, one), tupleOfParts(one, less), tupleOfParts(less, one), tupleOfParts(tupleOfParts(one), one), tupleOfParts(one, tupleOfParts(one)),
		tupleOfParts(make([]api.Part, 1024)...), tupleOfParts(make([]api.Part, 1023)...), nested(16, one), nested(15, one), nested(16, less)}
	for i, a := range different {
		for k, b := range different {
			if got := Same(must(t, a), must(t, b)); got != (i == k) {
				t.Errorf("%s, %s: %t", brief(a), brief(b), got)
			}
		}
	}
}

// TestDepth is P9.5: how deep a value is, of nil 0.
func TestDepth(t *testing.T) {
	if Depth(nil) != 0 {
		t.Errorf("null: %d", Depth(nil))
	}
	for _, p := range goodParts() {
		if got := Depth(must(t, p)); got != plainDepth(p) {
			t.Errorf("%s: %d", brief(p), got)
		}
	}
	for n := range 17 {
		if got := Depth(must(t, nested(n, api.Part{Kind: api.Bool}))); got != n {
			t.Errorf("%d deep: %d", n, got)
		}
	}
	uneven := tupleOfParts(nested(3, api.Part{}), nested(9, tupleOfParts()), nested(5, api.Part{}))
	if got := Depth(must(t, uneven)); got != 11 {
		t.Errorf("the deepest in the middle: %d", got)
	}
}

// TestAs is P9.6: each value is what its kind says, and nothing else of the three; v itself comes out.
func TestAs(t *testing.T) {
	for _, p := range goodParts() {
		v := must(t, p)
		n, isNumber := AsNumber(v)
		r, isRaw := AsRaw(v)
		l, isList := AsList(v)
		if isNumber != (p.Kind == api.Int) || isRaw != (p.Kind >= api.Bytes && p.Kind <= api.Text) || isList != (p.Kind == api.Tuple) {
			t.Errorf("%s: %t, %t, %t", brief(p), isNumber, isRaw, isList)
		}
		if (n != nil) != isNumber || (r != nil) != isRaw || (l != nil) != isList {
			t.Errorf("%s: %s, %s, %s", brief(p), brief(n), brief(r), brief(l))
		}
		if isNumber && (Value(n) != v || n.Num() != p.Num) || isRaw && (Value(r) != v || r.Bytes() != p.Raw) || isList && (Value(l) != v || l.Len() != len(p.Items)) {
			t.Errorf("%s: not itself", brief(p))
		}
	}
}

// TestAsByAssertion is P9.2 and P9.6: an assertion of one's own tells the same; of Bool none of the three holds.
func TestAsByAssertion(t *testing.T) {
	for _, p := range goodParts() {
		v := must(t, p)
		_, number := v.(interface{ Num() api.Num })
		_, raw := v.(interface{ Bytes() string })
		_, length := v.(interface{ Len() int })
		_, at := v.(interface{ At(int) Value })
		if number != (p.Kind == api.Int) || raw != (p.Kind >= api.Bytes && p.Kind <= api.Text) || length != (p.Kind == api.Tuple) || at != length {
			t.Errorf("%s: %t, %t, %t, %t", brief(p), number, raw, length, at)
		}
	}
}

// TestWant is P9.7: all kinds of all values, and all kinds that are none.
func TestWant(t *testing.T) {
	for _, p := range goodParts() {
		v := must(t, p)
		for k := range 256 {
			got, err := Want(v, api.Kind(k))
			want := api.OK
			if k > 7 {
				want = api.ErrArg
			} else if api.Kind(k) != p.Kind {
				want = api.ErrKind
			}
			checkFault(t, err, want)
			if want == api.OK && got != v || want != api.OK && got != nil {
				t.Fatalf("%s as %d: %s", brief(p), k, brief(got))
			}
		}
	}
}

// checkFault: nil, or a Fault with that number and nothing else.
func checkFault(t *testing.T, err error, want api.Errno) {
	t.Helper()
	if want == api.OK {
		if err != nil {
			t.Fatalf("%v", err)
		}
		return
	}
	var f *api.Fault
	if !errors.As(err, &f) || f == nil || !reflect.DeepEqual(*f, api.Fault{Code: want}) || !errors.Is(err, want) {
		t.Fatalf("%v, not %d", err, want)
	}
}

// TestWantFaultsAreNew is P9.7 with R2: whoever writes into a Fault changes no other one.
func TestWantFaultsAreNew(t *testing.T) {
	for _, k := range []api.Kind{api.Int, 8} {
		_, first := Want(nil, k)
		_, second := Want(nil, k)
		var f, g *api.Fault
		if !errors.As(first, &f) || !errors.As(second, &g) || f == g {
			t.Fatalf("kind %d: one Fault for two", k)
		}
		code := g.Code
		f.Code, f.At = 77, 7
		if _, third := Want(nil, k); g.Code != code || !errors.Is(third, code) {
			t.Errorf("kind %d: a Fault changed", k)
		}
	}
}

// TestThereAndBack is P9.8: Tell of Make is the part, Make of Tell the same value.
func TestThereAndBack(t *testing.T) {
	for _, p := range goodParts() {
		v := must(t, p)
		if !sameParts(Tell(v), p) {
			t.Errorf("%s: %s", brief(p), brief(Tell(v)))
		}
		if w, e := Make(Tell(v)); e != api.OK || !Same(v, w) || (w == nil) != (v == nil) {
			t.Errorf("%s: error %d, %s", brief(p), e, brief(w))
		}
	}
	for _, p := range []api.Part{tupleOfParts(make([]api.Part, 1024)...), {Kind: api.Text, Raw: strings.Repeat("\xff", 65536)}, nested(16, api.Part{Kind: api.ID, Raw: "0123456789abcdef"})} {
		if v := must(t, p); !sameParts(Tell(v), p) || !Same(v, must(t, Tell(v))) {
			t.Errorf("kind %d, %d items, %d bytes", p.Kind, len(p.Items), len(p.Raw))
		}
	}
}

// spoil writes into all of a part's lists, and behind their ends.
func spoil(p api.Part) {
	for i := range p.Items {
		spoil(p.Items[i])
		p.Items[i] = api.Part{Kind: 9, Raw: "spoilt"}
	}
	for i := range p.Items[len(p.Items):cap(p.Items)] {
		p.Items[:cap(p.Items)][len(p.Items)+i] = api.Part{Kind: 9}
	}
}

// TestNeverChanges is P9.8 with R2: neither what a value was made of nor what it told leads to it.
func TestNeverChanges(t *testing.T) {
	for _, p := range goodParts() {
		given := copied(p)
		v := must(t, given)
		if !sameParts(given, p) {
			t.Fatalf("%s: what is handed in is written into", brief(p))
		}
		spoil(given)
		told, twice := Tell(v), Tell(v)
		if !sameParts(told, p) {
			t.Fatalf("%s: it changed with what it was made of", brief(p))
		}
		spoil(told)
		if !sameParts(twice, p) || !sameParts(Tell(v), p) {
			t.Fatalf("%s: it changed with what it told", brief(p))
		}
		if l, is := AsList(v); is {
			checkItems(t, l, p.Items)
		}
	}
}

// TestTellsListsApart is R2: no two lists of one answer share memory, also where one value stands at two places.
func TestTellsListsApart(t *testing.T) {
	pair := must(t, tupleOfParts(api.Part{Kind: api.Bool}, api.Part{Kind: api.Bool, Yes: true}))
	l, e := Of(pair, pair)
	if e != api.OK {
		t.Fatal(e)
	}
	p := l.Part()
	p.Items[0].Items[0] = api.Part{Kind: 9}
	if p.Items[1].Items[0].Kind != api.Bool || len(Tell(pair).Items) != 2 || Tell(pair).Items[0].Kind != api.Bool {
		t.Error("two places of one answer share a list")
	}
}

// TestOfKeepsNoList is P9.4 and P9.8 with R2: the list of items that is handed in is neither kept nor written into, nor its spare room.
func TestOfKeepsNoList(t *testing.T) {
	a, b := must(t, api.Part{Kind: api.Bool, Yes: true}), must(t, api.Part{Kind: api.Name, Raw: "b"})
	room := []Value{a, b, nil, a, b}
	l, e := Of(room[:3]...)
	if e != api.OK || room[3] != a || room[4] != b || room[0] != a || room[1] != b || room[2] != nil {
		t.Fatalf("error %d, or what is handed in is written into", e)
	}
	for i := range room {
		room[i] = l
	}
	checkItems(t, l, []api.Part{{Kind: api.Bool, Yes: true}, {Kind: api.Name, Raw: "b"}, {}})
	if Depth(l) != 1 {
		t.Errorf("%d deep", Depth(l))
	}
}

// TestNullIsNil is P9.1 to P9.7 with R3: null is the nil interface wherever one comes out.
func TestNullIsNil(t *testing.T) {
	null, e := Make(api.Part{})
	if null != nil || e != api.OK {
		t.Fatalf("Make: %s, %d", brief(null), e)
	}
	l, _ := Of(null, nil)
	made, _ := AsList(must(t, tupleOfParts(api.Part{}, api.Part{})))
	for i := range 2 {
		if l.At(i) != nil || made.At(i) != nil {
			t.Errorf("item %d holds something", i)
		}
	}
	if !Same(l, made) || !Same(l.At(0), nil) || !Same(nil, nil) || Same(nil, l) || Same(l, nil) {
		t.Error("Same of null")
	}
	if n, is := AsNumber(nil); n != nil || is {
		t.Error("null is a number")
	}
	if r, is := AsRaw(nil); r != nil || is {
		t.Error("null is bytes")
	}
	if l, is := AsList(nil); l != nil || is {
		t.Error("null is a list")
	}
	if v, err := Want(l.At(0), api.Null); v != nil || err != nil {
		t.Errorf("Want: %s, %v", brief(v), err)
	}
}

// TestHeldByEquals is R1: values may be held against each other by ==, and stand as keys of a map.
func TestHeldByEquals(t *testing.T) {
	seen := map[Value]int{}
	for _, p := range goodParts() {
		v := must(t, p)
		seen[v]++
		if v != Value(v) || p.Kind != api.Null && v == nil {
			t.Errorf("%s is not itself", brief(p))
		}
	}
	if seen[nil] == 0 {
		t.Error("no null among them")
	}
}

// TestExamples is the chapter's table.
func TestExamples(t *testing.T) {
	one := must(t, api.Part{Kind: api.Int, Num: api.Num{Mag: "\x01"}})
	if n, is := AsNumber(one); !is || n.Num() != (api.Num{Mag: "\x01"}) {
		t.Error("1 is no number")
	}
	if _, is := AsRaw(one); is {
		t.Error("1 is bytes")
	}
	if _, is := AsList(one); is {
		t.Error("1 is a list")
	}
	l, e := Of(nil, nil)
	if e != api.OK || l.Len() != 2 || l.At(0) != nil || l.At(2) != nil || l.At(-1) != nil || !reflect.DeepEqual(l.Part(), api.Part{Kind: api.Tuple, Items: []api.Part{{}, {}}}) {
		t.Errorf("Of(nil, nil): error %d", e)
	}
	none, e := Of()
	if e != api.OK || Depth(none) != 1 || none.Len() != 0 || !Same(none, must(t, api.Part{Kind: api.Tuple})) {
		t.Errorf("Of(): error %d", e)
	}
	if Same(must(t, api.Part{Kind: api.Bytes, Raw: "a"}), must(t, api.Part{Kind: api.Name, Raw: "a"})) {
		t.Error("bytes and a name are the same")
	}
	for _, c := range []struct {
		kind api.Kind
		want api.Errno
	}{{api.Null, api.OK}, {api.Int, api.ErrKind}, {8, api.ErrArg}} {
		v, err := Want(nil, c.kind)
		checkFault(t, err, c.want)
		if v != nil {
			t.Errorf("Want(nil, %d): %s", c.kind, brief(v))
		}
	}
}
