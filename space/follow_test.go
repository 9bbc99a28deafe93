package space_test

import (
	"math/rand"
	"slices"
	"strconv"
	"strings"
	"testing"

	"dovetail/api"
	"dovetail/pack"
	"dovetail/value"
)

// anyText is some schema's text, now and then of none; schemas of one number are near one another, so that some bear others' keys.
func anyText(r *rand.Rand) string {
	null := func() string { return some(r, "", "", " null-first", " null-last") }
	limit := "limit " + some(r, "64", "64", "64", "65", "20") + "\n"
	switch r.Intn(7) {
	case 0, 1:
		return limit + "field a int" + null() + some(r, "", " from -1 to 256") + "\nfield b bytes down" + null() + " most " + some(r, "8", "9", "1") + "\n"
	case 2:
		return limit + "field b bytes" + null() + " most 9\nfield a int" + null() + "\n"
	case 3:
		return limit + "field t text" + some(r, "", " down") + null() + " strength " + some(r, "1", "2", "4 shifted") + "\nfield a int" + null() + "\n"
	case 4:
		return limit + "field t tuple" + some(r, "", " down") + null() + "\nfield n name" + null() + " most 3\nfield a int\nend\nfield x bool" + null() + "\n"
	case 5:
		return limit + "field n name most " + some(r, "2", "9") + "\nfield u tuple\nfield t text strength 1\nend\n"
	}
	return limit + some(r, "field a int", "field a", "field A int\n", "")
}

// anySources make over tuples of a schema, to those of another one where its kinds are there.
func anySources(r *rand.Rand, s, to api.Schema) []api.Source {
	var l []api.Source
	for _, f := range to.Fields {
		at := slices.IndexFunc(s.Fields, func(g api.Field) bool { return g.Kind == f.Kind })
		if at < 0 || r.Intn(8) == 0 {
			l = append(l, own(anyPart(r, f)))
		} else {
			l = append(l, api.Source{Field: at, Part: api.Part{Kind: 9}})
		}
	}
	if r.Intn(10) == 0 {
		l = append(l, api.Source{Field: r.Intn(3)})
	}
	return l
}

// anyRow is some part: mostly a tuple of the schema.
func anyRow(r *rand.Rand, s api.Schema) api.Part {
	p := anyTuple(r, s)
	switch r.Intn(16) {
	case 0:
		return p.Items[0]
	case 3:
		return anyTuple(r, api.Schema{Fields: looser(s.Fields)})
	case 1:
		p.Items = append(p.Items, api.Part{})
	case 2:
		p.Items[r.Intn(len(p.Items))] = some(r, api.Part{}, api.Part{Kind: 9}, nested(17, api.Part{}), api.Part{Kind: api.ID, Raw: "0123456789abcdef"})
	}
	return p
}

// looser are fields that have more numbers, and more bytes.
func looser(fields []api.Field) []api.Field {
	l := slices.Clone(fields)
	for i := range l {
		l[i].Bounded, l[i].Most, l[i].Fields = false, 9, looser(l[i].Fields)
	}
	return l
}

// anyQuery is some query: mostly one that the schema bears, and often one that one of the rows answers.
func anyQuery(r *rand.Rand, s api.Schema, rows []api.Row) api.Query {
	q := api.Query{Back: r.Intn(2) == 0, Limit: some(r, 0, 0, 0, -1, 1, 2, 3, 100)}
	if r.Intn(4) > 0 {
		q.Prefix = anyRow(r, s)
		if len(rows) > 0 && r.Intn(3) > 0 {
			q.Prefix = some(r, rows...).Part
		}
		if n := len(q.Prefix.Items); n > 0 {
			q.Prefix.Items = q.Prefix.Items[:r.Intn(n)]
		}
	}
	n := len(q.Prefix.Items)
	if n >= len(s.Fields) {
		return q
	}
	if r.Intn(3) == 0 {
		for range 1 + r.Intn(2) {
			b := api.Bound{Above: r.Intn(2) == 0, Equal: r.Intn(2) == 0, Part: anyPart(r, s.Fields[n])}
			if r.Intn(15) == 0 {
				b.Part = some(r, api.Part{}, api.Part{Kind: 9}, api.Part{Kind: api.Bool})
			}
			q.Bounds = append(q.Bounds, b)
		}
	}
	if k := s.Fields[n].Kind; (k == api.Bytes || k == api.Name) && r.Intn(2) == 0 || r.Intn(20) == 0 {
		q.Starts, q.Start = true, some(r, "", "a", "\x00", "ab", "\xff")
	}
	return q
}

// anyCall does some call, and answers its error.
func anyCall(r *rand.Rand, b both, count int) error {
	b.t.Helper()
	name := some(r, "p", "q", "t", "p", "q", "t", "r", "P")
	s := api.Schema{Fields: []api.Field{{Kind: api.Int}}}
	var rows []api.Row
	if x, _ := b.p.find(name); x != nil {
		s, rows = x.s, x.rows
	}
	kept := some(r, strconv.Itoa(count), strconv.Itoa(count), "", strings.Repeat("v", 65536+r.Intn(2)))
	switch r.Intn(32) {
	case 0:
		return b.tables(some(r, oddMarks, oddMarks, acute, "x"), some(r, oddEntries, oddEntries, falling, rising, "x"))
	case 1, 2:
		return b.define(name, anyText(r))
	case 3, 4:
		return b.evolve(name, anyText(r))
	case 5, 6:
		to, source := some(r, "p", "q", "t", name), api.Schema{}
		if x, _ := b.p.find(to); x != nil {
			source = x.s
		}
		return b.rekey(name, to, anySources(r, s, source))
	case 7:
		_, err := b.remove(name, anyRow(r, s))
		return err
	case 8:
		if len(rows) > 0 {
			_, err := b.remove(name, some(r, rows...).Part)
			return err
		}
	case 10:
		_, _, err := b.get(name, anyRow(r, s))
		return err
	case 11, 12:
		return b.importKey(name, anyKey(r, b, s), kept)
	case 13, 14, 15, 16:
		_, err := b.scan(name, anyQuery(r, s, rows))
		return err
	}
	return b.put(name, anyRow(r, s), kept)
}

// anyKey is the key of some tuple of a schema; now and then with something wrong.
func anyKey(r *rand.Rand, b both, s api.Schema) string {
	v, _ := value.Make(anyTuple(r, s))
	key, err := pack.Encode(b.p.tables, s, v)
	switch n := r.Intn(12); {
	case err != nil || n == 0:
		return some(r, "", "\x12\x80", "\x02\x02", "\x12\x80\x23\xff\xfe", strings.Repeat("\x02", 70))
	case n == 1:
		return key[:r.Intn(len(key))]
	case n == 2:
		return key + "\x00"
	}
	return key
}

// filled has schemas, and rows of them.
func filled(t testing.TB, r *rand.Rand) both {
	t.Helper()
	b := newBoth(t)
	must(t, b.tables(oddMarks, oddEntries))
	for _, name := range []string{"t", "p", "q"} {
		for b.define(name, anyText(r)) != nil {
		}
		x, _ := b.p.find(name)
		for i := range r.Intn(12) {
			_ = b.put(name, anyTuple(r, x.s), strconv.Itoa(i)) // the key may be too long
		}
	}
	return b
}

// TestAny is T6: rows of calls of all sorts, against the list; each answer and, time and again, all that there is.
func TestAny(t *testing.T) {
	r := rand.New(rand.NewSource(208))
	codes := map[api.Errno]int{}
	for range 80 {
		b := filled(t, r)
		for i := range 100 {
			err := anyCall(r, b, i)
			if f, is := err.(*api.Fault); is {
				codes[f.Code]++
			} else {
				codes[api.OK]++
			}
			if i%20 == 0 {
				b.check()
				wantKeys(t, b)
			}
		}
		b.check()
	}
	for _, code := range []api.Errno{api.OK, api.ErrArg, api.ErrLong, api.ErrSpaceName, api.ErrSpaceTwice, api.ErrSpaceKeep, api.ErrUcdLine, api.ErrTableLine, api.ErrSchemaLine, api.ErrValueForm, api.ErrValueDeep, api.ErrFitKind, api.ErrFitNull, api.ErrFitCount, api.ErrFitRange, api.ErrFitLong, api.ErrPackLong, api.ErrPackMore, api.ErrFieldShort, api.ErrFieldTag, api.ErrSpanKind} {
		if codes[code] < 5 {
			t.Errorf("%d is told %d times", code, codes[code])
		}
	}
}

// wantKeys is P20.8: each key of Pairs is one of the schema, with the tables that there are; its tuple is the one that Scan tells at that place.
func wantKeys(t *testing.T, b both) {
	t.Helper()
	for _, x := range b.p.list {
		pairs, _ := b.s.Pairs(x.name)
		rows, _ := b.s.Scan(x.name, api.Query{})
		s, _ := b.s.Schema(x.name)
		if len(rows) != len(pairs) {
			t.Fatalf("%d rows, %d pairs", len(rows), len(pairs))
		}
		for i, p := range pairs {
			v, err := pack.Decode(b.p.tables, s, p.Key)
			if err != nil || !sameParts(value.Tell(v), rows[i].Part) || p.Value != rows[i].Value {
				t.Fatalf("%q: %s, %s", p.Key, told(err), brief(rows[i]))
			}
		}
	}
}

// TestFamily is P20.1 with T6: clones of clones, each changed by turns.
func TestFamily(t *testing.T) {
	r := rand.New(rand.NewSource(201))
	for range 10 {
		family := []both{filled(t, r)}
		for i := range 200 {
			b := family[r.Intn(len(family))]
			if i%25 == 24 {
				family = append(family, b.clone())
			}
			_ = anyCall(r, b, i)
		}
		for _, b := range family {
			b.check()
		}
	}
}

// TestBackTurned is P20.8: what Scan tells without Back is, the other way round, what it tells with it, if no Limit cuts.
func TestBackTurned(t *testing.T) {
	r := rand.New(rand.NewSource(209))
	asked := 0
	for range 60 {
		b := filled(t, r)
		for i := range 30 {
			_ = anyCall(r, b, i)
		}
		for _, x := range b.p.list {
			for range 20 {
				q := anyQuery(r, x.s, x.rows)
				q.Limit = some(r, 0, -1, len(x.rows), len(x.rows)+1)
				q.Back = false
				one, err := b.s.Scan(x.name, q)
				q.Back = true
				two, bad := b.s.Scan(x.name, q)
				slices.Reverse(two)
				if !sameRows(one, two) || !sameError(err, bad) {
					t.Fatalf("%s: %s; %s", brief(q), rowsOf(one), rowsOf(two))
				}
				if len(one) > 1 {
					asked++
				}
			}
		}
	}
	if asked < 100 {
		t.Errorf("%d", asked)
	}
}
