package space_test

import (
	"errors"
	"fmt"
	"reflect"
	"slices"
	"sort"
	"strconv"
	"strings"
	"testing"

	"dovetail/api"
	"dovetail/compat"
	"dovetail/lit"
	"dovetail/order"
	"dovetail/pack"
	"dovetail/rekey"
	"dovetail/schema"
	"dovetail/space"
	"dovetail/span"
	"dovetail/value"
	"dovetail/weigh"
)

// plain is a space by the chapter's words, and T6's: a list of schemas, in whatever order they came, each with its tuples, and what is kept under them.
type plain struct {
	tables *weigh.Tables
	list   []plainSchema
}

type plainSchema struct {
	name string
	s    api.Schema
	rows []api.Row
}

func newPlain() *plain {
	x, _, _, _ := weigh.Load("", "")
	return &plain{tables: x}
}

func (p *plain) clone() *plain {
	other := &plain{tables: p.tables}
	for _, x := range p.list {
		x.rows = slices.Clone(x.rows)
		other.list = append(other.list, x)
	}
	return other
}

func (p *plain) find(name string) (*plainSchema, error) {
	for i := range p.list {
		if p.list[i].name == name {
			return &p.list[i], nil
		}
	}
	return nil, fault(api.ErrSpaceName)
}

// isName is chapter 11's words.
func isName(s string) bool {
	for i, c := range []byte(s) {
		small := strings.IndexByte("abcdefghijklmnopqrstuvwxyz", c) >= 0
		if !small && (i == 0 || strings.IndexByte("0123456789-", c) < 0) {
			return false
		}
	}
	return len(s) >= 1 && len(s) <= 16
}

func (p *plain) setTables(marks, entries string) error {
	x, e, which, line := weigh.Load(marks, entries)
	if e != api.OK {
		return faultAt(e, line, which)
	}
	a, b := x.Texts()
	c, d := p.tables.Texts()
	for _, y := range p.list {
		if len(y.rows) > 0 && slices.ContainsFunc(schema.Paths(y.s), func(path []int) bool { f, _ := schema.Find(y.s, path); return f.Kind == api.Text }) && (a != c || b != d) {
			return fault(api.ErrSpaceKeep)
		}
	}
	p.tables = x
	return nil
}

func (p *plain) define(name, text string) error {
	if !isName(name) {
		return fault(api.ErrSpaceName)
	}
	if x, _ := p.find(name); x != nil {
		return fault(api.ErrSpaceTwice)
	}
	s, err := schema.Parse(text)
	if err != nil {
		return err
	}
	p.list = append(p.list, plainSchema{name: name, s: s})
	return nil
}

func (p *plain) evolve(name, text string) error {
	x, err := p.find(name)
	if err != nil {
		return err
	}
	s, err := schema.Parse(text)
	if err != nil {
		return err
	}
	if v, _ := compat.Check(x.s, s); len(x.rows) > 0 && !v.Fits {
		return fault(api.ErrSpaceKeep)
	}
	x.s = s
	return nil
}

// tuple is what is wrong with a part as a tuple of a schema that has a key.
func (p *plain) tuple(s api.Schema, q api.Part) error {
	v, e := value.Make(q)
	if e != api.OK {
		return fault(e)
	}
	_, err := pack.Encode(p.tables, s, v)
	return err
}

// place is where a tuple stands in a list of rows, or -1.
func place(rows []api.Row, q api.Part) int {
	return slices.IndexFunc(rows, func(r api.Row) bool { return sameParts(r.Part, q) })
}

func (x *plainSchema) keep(q api.Part, value string) {
	if i := place(x.rows, q); i >= 0 {
		x.rows[i].Value = value
	} else {
		x.rows = append(x.rows, api.Row{Part: q, Value: value})
	}
}

func (p *plain) put(name string, q api.Part, value string) error {
	x, err := p.find(name)
	if err == nil && len(value) > 65536 {
		err = fault(api.ErrLong)
	}
	if err == nil {
		err = p.tuple(x.s, q)
	}
	if err == nil {
		x.keep(q, value)
	}
	return err
}

func (p *plain) get(name string, q api.Part) (string, bool, error) {
	x, err := p.find(name)
	if err == nil {
		err = p.tuple(x.s, q)
	}
	if err != nil {
		return "", false, err
	}
	if i := place(x.rows, q); i >= 0 {
		return x.rows[i].Value, true, nil
	}
	return "", false, nil
}

func (p *plain) remove(name string, q api.Part) (bool, error) {
	_, is, err := p.get(name, q)
	if is {
		x, _ := p.find(name)
		i := place(x.rows, q)
		x.rows = slices.Delete(x.rows, i, i+1)
	}
	return is, err
}

func (p *plain) importKey(name, key, kept string) error {
	x, err := p.find(name)
	if err != nil {
		return err
	}
	if len(kept) > 65536 {
		return fault(api.ErrLong)
	}
	v, err := pack.Decode(p.tables, x.s, key)
	if err != nil {
		return err
	}
	x.keep(value.Tell(v), kept)
	return nil
}

// sorted are rows in the order of their tuples, which package order tells without any key. (They stay so, as it is quicker the next time.)
func (p *plain) sorted(x *plainSchema) []api.Row {
	l := x.rows
	sort.SliceStable(l, func(i, j int) bool {
		a, _ := value.Make(l[i].Part)
		b, _ := value.Make(l[j].Part)
		n, err := order.Compare(p.tables, x.s, a, b)
		return err == nil && n < 0
	})
	return slices.Clone(l)
}

// asked is the error of a query, in the chapter's order.
func (p *plain) asked(s api.Schema, q api.Query) error {
	if q.Starts && len(q.Bounds) > 0 {
		return fault(api.ErrArg)
	}
	if sameParts(q.Prefix, api.Part{}) {
		q.Prefix.Kind = api.Tuple
	}
	v, e := value.Make(q.Prefix)
	if e != api.OK {
		return fault(e)
	}
	var err error
	switch {
	case q.Starts:
		_, err = span.Starts(p.tables, s, v, q.Start)
	case len(q.Bounds) > 0:
		_, err = span.Bounds(p.tables, s, v, q.Bounds)
	default:
		_, err = span.Prefix(p.tables, s, v)
	}
	return err
}

// wanted is P16.5's word on a tuple: by its items alone.
func (p *plain) wanted(s api.Schema, q api.Query, tuple api.Part) bool {
	n := len(q.Prefix.Items)
	for i, item := range q.Prefix.Items {
		if !sameParts(item, tuple.Items[i]) {
			return false
		}
	}
	if q.Starts {
		return tuple.Items[n].Kind != api.Null && strings.HasPrefix(tuple.Items[n].Raw, q.Start)
	}
	for _, b := range q.Bounds {
		item, _ := value.Make(tuple.Items[n])
		edge, _ := value.Make(b.Part)
		stands, _ := order.Field(p.tables, s.Fields[n], item, edge)
		if stands == 0 && !b.Equal || stands > 0 && !b.Above || stands < 0 && b.Above {
			return false
		}
	}
	return true
}

func (p *plain) scan(name string, q api.Query) ([]api.Row, error) {
	x, err := p.find(name)
	if err == nil {
		err = p.asked(x.s, q)
	}
	if err != nil {
		return nil, err
	}
	l := slices.DeleteFunc(p.sorted(x), func(r api.Row) bool { return !p.wanted(x.s, q, r.Part) })
	if q.Back {
		slices.Reverse(l)
	}
	if q.Limit > 0 && len(l) > q.Limit {
		l = l[:q.Limit]
	}
	return l, nil
}

func (p *plain) rekey(from, to string, l []api.Source) error {
	x, err := p.find(from)
	if err != nil {
		return err
	}
	y, err := p.find(to)
	if err != nil {
		return err
	}
	var made []api.Row
	for i, r := range p.sorted(x) {
		old, _ := value.Make(r.Part)
		v, err := rekey.Map(l, old)
		if err == nil {
			_, err = pack.Encode(p.tables, y.s, v)
		}
		if err != nil {
			return &api.Fault{Code: api.ErrSpaceKeep, At: i, Why: err}
		}
		if place(made, value.Tell(v)) >= 0 || from != to && place(y.rows, value.Tell(v)) >= 0 {
			return faultAt(api.ErrSpaceTwice, i)
		}
		made = append(made, api.Row{Part: value.Tell(v), Value: r.Value})
	}
	x.rows = nil
	y.rows = append(y.rows, made...)
	return nil
}

// both are a space and its list: what is done to the one is done to the other, and they must answer the same.
type both struct {
	t testing.TB
	s *space.Space
	p *plain
}

func newBoth(t testing.TB) both { return both{t, space.New(), newPlain()} }

// same: the space answered that error, or none, as the list does. What is refused must have changed nothing.
func (b both) same(call string, got, want error) error {
	b.t.Helper()
	if !sameError(got, want) {
		b.t.Fatalf("%s: %s, not %s", call, told(got), told(want))
	}
	if got != nil {
		isFault(b.t, got)
		b.check()
	}
	return got
}

func (b both) tables(marks, entries string) error {
	b.t.Helper()
	return b.same("Tables", b.s.Tables(marks, entries), b.p.setTables(marks, entries))
}

func (b both) define(name, text string) error {
	b.t.Helper()
	return b.same("Define "+brief(name)+brief(text), b.s.Define(name, text), b.p.define(name, text))
}

func (b both) evolve(name, text string) error {
	b.t.Helper()
	return b.same("Evolve "+brief(name)+brief(text), b.s.Evolve(name, text), b.p.evolve(name, text))
}

func (b both) rekey(from, to string, l []api.Source) error {
	b.t.Helper()
	return b.same("Rekey "+from+" "+to+brief(l), b.s.Rekey(from, to, l), b.p.rekey(from, to, l))
}

func (b both) put(name string, q api.Part, value string) error {
	b.t.Helper()
	return b.same("Put "+name+brief(q), b.s.Put(name, q, value), b.p.put(name, q, value))
}

func (b both) importKey(name, key, value string) error {
	b.t.Helper()
	return b.same("Import "+name+brief(key), b.s.Import(name, key, value), b.p.importKey(name, key, value))
}

func (b both) get(name string, q api.Part) (string, bool, error) {
	b.t.Helper()
	got, is, err := b.s.Get(name, q)
	want, there, bad := b.p.get(name, q)
	if got != want || is != there || !sameError(err, bad) {
		b.t.Fatalf("Get %s %s: %s, %v, %s; not %s, %v, %s", name, brief(q), brief(got), is, told(err), brief(want), there, told(bad))
	}
	return got, is, err
}

func (b both) remove(name string, q api.Part) (bool, error) {
	b.t.Helper()
	is, err := b.s.Delete(name, q)
	there, bad := b.p.remove(name, q)
	if is != there {
		b.t.Fatalf("Delete %s %s: %v", name, brief(q), is)
	}
	return is, b.same("Delete "+name+brief(q), err, bad)
}

func (b both) scan(name string, q api.Query) ([]api.Row, error) {
	b.t.Helper()
	got, err := b.s.Scan(name, q)
	want, bad := b.p.scan(name, q)
	if !sameRows(got, want) || !sameError(err, bad) {
		b.t.Fatalf("Scan %s %s: %s, %s; not %s, %s", name, brief(q), rowsOf(got), told(err), rowsOf(want), told(bad))
	}
	return got, err
}

func (b both) clone() both {
	b.t.Helper()
	c := b.s.Clone()
	if c == nil || c == b.s {
		b.t.Fatal("no other one")
	}
	return both{b.t, c, b.p.clone()}
}

// check holds all that a space tells against the list.
func (b both) check() {
	b.t.Helper()
	marks, entries := b.s.Texts()
	wantMarks, wantEntries := b.p.tables.Texts()
	if marks != wantMarks || entries != wantEntries {
		b.t.Fatalf("Texts: %s, %s", brief(marks), brief(entries))
	}
	var names []string
	for _, x := range b.p.list {
		names = append(names, x.name)
	}
	sort.Strings(names)
	if got := b.s.Names(); !slices.Equal(got, names) {
		b.t.Fatalf("Names: %q, not %q", got, names)
	}
	for i := range b.p.list {
		b.checkSchema(&b.p.list[i])
	}
}

func (b both) checkSchema(x *plainSchema) {
	b.t.Helper()
	if s, err := b.s.Schema(x.name); err != nil || !sameSchemas(s, x.s) {
		b.t.Fatalf("Schema %s: %s, %s; not %s", x.name, brief(s), told(err), brief(x.s))
	}
	if n, err := b.s.Len(x.name); err != nil || n != len(x.rows) {
		b.t.Fatalf("Len %s: %d, %s; not %d", x.name, n, told(err), len(x.rows))
	}
	var want []api.Pair
	for _, r := range b.p.sorted(x) {
		want = append(want, api.Pair{Key: keyOf(b.t, b.p.tables, x.s, r.Part), Value: r.Value})
	}
	if l, err := b.s.Pairs(x.name); err != nil || !slices.Equal(l, want) {
		b.t.Fatalf("Pairs %s: %s, %s; not %s", x.name, brief(l), told(err), brief(want))
	}
	b.scan(x.name, api.Query{})
	b.scan(x.name, api.Query{Back: true})
	for _, r := range x.rows {
		b.get(x.name, r.Part)
	}
}

// must: what is done to prepare a test is not refused.
func must(t testing.TB, err error) {
	t.Helper()
	if err != nil {
		t.Fatal(told(err))
	}
}

// want: it is refused just so.
func want(t testing.TB, got, want error) {
	t.Helper()
	if !sameError(got, want) {
		t.Errorf("%s, not %s", told(got), told(want))
	}
}

func fault(e api.Errno) *api.Fault { return &api.Fault{Code: e} }

func faultAt(e api.Errno, at int, path ...int) *api.Fault {
	return &api.Fault{Code: e, At: at, Path: path}
}

func faultIn(e api.Errno, path ...int) *api.Fault { return &api.Fault{Code: e, Path: path} }

// otherKind is what layer 12 says of a value of another kind than its field's.
func otherKind(path ...int) *api.Fault {
	return &api.Fault{Code: api.ErrFitKind, Path: path, Why: fault(api.ErrKind)}
}

// part is a value that is written as package lit has it.
func part(t testing.TB, text string) api.Part {
	t.Helper()
	v, e, at := lit.Parse(text)
	if e != api.OK {
		t.Fatalf("%s: error %d at %d", text, e, at)
	}
	return value.Tell(v)
}

func written(p api.Part) string {
	v, e := value.Make(p)
	s, f := lit.Print(v)
	if e != api.OK || f != api.OK {
		return brief(p)
	}
	return s
}

// rowsOf are rows as they can be read: the tuple, and what is kept, if it is anything.
func rowsOf(l []api.Row) string {
	var out []string
	for _, r := range l {
		s := written(r.Part)
		if r.Value != "" {
			s += "=" + r.Value
		}
		out = append(out, s)
	}
	return strings.Join(out, " ")
}

// keyOf is a tuple's key by package pack.
func keyOf(t testing.TB, x *weigh.Tables, s api.Schema, p api.Part) string {
	t.Helper()
	v, e := value.Make(p)
	key, err := pack.Encode(x, s, v)
	if e != api.OK || err != nil {
		t.Fatalf("%s; %s: %d, %s", brief(s), brief(p), e, told(err))
	}
	return key
}

func sameRows(a, b []api.Row) bool {
	return slices.EqualFunc(a, b, func(x, y api.Row) bool { return x.Value == y.Value && sameParts(x.Part, y.Part) })
}

// sameParts tells whether two parts are the same; a list without elements may be nil or not.
func sameParts(a, b api.Part) bool {
	return a.Kind == b.Kind && a.Yes == b.Yes && a.Num == b.Num && a.Raw == b.Raw && slices.EqualFunc(a.Items, b.Items, sameParts)
}

func sameFields(a, b api.Field) bool {
	within := slices.EqualFunc(a.Fields, b.Fields, sameFields)
	a.Fields, b.Fields = nil, nil
	return within && reflect.DeepEqual(a, b)
}

func sameSchemas(a, b api.Schema) bool {
	return a.Limit == b.Limit && slices.EqualFunc(a.Fields, b.Fields, sameFields)
}

// isFault is an error that errors.As and errors.Is find as DOC.md has it.
func isFault(t testing.TB, err error) {
	t.Helper()
	bad, is := err.(*api.Fault)
	var as *api.Fault
	if !is || bad == nil || !errors.As(err, &as) || as != bad || !errors.Is(err, bad.Code) || bad.Why != nil && !errors.Is(err, bad.Why) {
		t.Fatalf("%s: no Fault", told(err))
	}
}

// sameError tells whether two errors are of one type and have the same; a path without places may be nil or not.
func sameError(a, b error) bool {
	f, isF := a.(*api.Fault)
	g, isG := b.(*api.Fault)
	if isF && isG && f != nil && g != nil {
		return f.Code == g.Code && f.At == g.At && slices.Equal(f.Path, g.Path) && sameError(f.Why, g.Why)
	}
	return reflect.DeepEqual(a, b)
}

// told is an error in few words.
func told(err error) string {
	if f, is := err.(*api.Fault); is && f != nil {
		return fmt.Sprintf("error %d at %d path %v why (%s)", f.Code, f.At, f.Path, told(f.Why))
	}
	return fmt.Sprintf("%T %v", err, err)
}

// brief is what a test tells of something: as much as fits a few lines.
func brief(x any) string {
	s := fmt.Sprintf("%+v", x)
	return strconv.Quote(s[:min(len(s), 300)])
}

// from are sources that take these items.
func from(places ...int) []api.Source {
	var l []api.Source
	for _, n := range places {
		l = append(l, api.Source{Field: n})
	}
	return l
}

// own is a source with a value of its own.
func own(p api.Part) api.Source { return api.Source{Field: -1, Part: p} }

// nested is a part within so many tuples.
func nested(n int, p api.Part) api.Part {
	for range n {
		p = api.Part{Kind: api.Tuple, Items: []api.Part{p}}
	}
	return p
}

// wrongParts are parts that may not be, each with its number.
func wrongParts() map[api.Errno][]api.Part {
	return map[api.Errno][]api.Part{
		api.ErrValueForm: {{Kind: 8}, {Kind: 255}, {Yes: true}, {Raw: "a"}, {Kind: api.Tuple, Yes: true}, nested(1, api.Part{Kind: 9}), nested(15, api.Part{Kind: api.ID, Raw: "short"}), {Kind: api.Int, Num: api.Num{Below: true}}, {Kind: api.Tuple, Items: make([]api.Part, 1025)}, {Kind: api.Bytes, Raw: strings.Repeat("a", 65537)}},
		api.ErrValueDeep: {nested(17, api.Part{}), nested(17, api.Part{Kind: 9}), nested(300, api.Part{})},
	}
}

// The chapter's schema p, and one that has its fields the other way round, with one between them.
const (
	pText = "limit 64\nfield a int\nfield b bytes down most 8\n"
	qText = "limit 64\nfield b bytes most 8\nfield n name most 3\nfield a int\n"
)

// madeBoth has the schema p with the chapter's rows.
func madeBoth(t testing.TB) both {
	t.Helper()
	b := newBoth(t)
	must(t, b.define("p", pText))
	for i, x := range []string{"(1 x78)", "(1 x79)", "(2 x)"} {
		must(t, b.put("p", part(t, x), strconv.Itoa(i+1)))
	}
	return b
}

// wantScan: just these rows are told, in this order, as rowsOf writes them.
func wantScan(t testing.TB, b both, name string, q api.Query, want string) {
	t.Helper()
	l, err := b.scan(name, q)
	if err != nil || rowsOf(l) != want {
		t.Errorf("Scan %s %s: %s, %s; not %s", name, brief(q), rowsOf(l), told(err), want)
	}
}

// Texts of tables: by one of them b stands ahead of a, by the other one behind it; and one that spells the first otherwise.
const (
	acute   = "0301;230;\n00E1;0;0061 0301"
	rising  = "0061;[.1000.0020.0002]\n0062;[.1001.0020.0002]\n0301;[.0000.0024.0002]"
	falling = "0061;[.1000.0020.0002]\n0062;[.0FFF.0020.0002]\n0301;[.0000.0024.0002]"
	spelt   = "# the same\n0301;[.0000.0024.0002]\n\n0062;[.1001.0020.0002]\n#\n0061;[.1000.0020.0002]\n"
)
