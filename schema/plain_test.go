package schema

import (
	"errors"
	"fmt"
	"math/big"
	"math/rand"
	"reflect"
	"regexp"
	"slices"
	"strconv"
	"strings"
	"testing"

	"dovetail/api"
)

// What the tests hold the package against: the chapter's words, read by the library's means.

// placed is a field with its path.
type placed struct {
	path []int
	f    api.Field
}

// plainList has all fields of a schema, each ahead of those within it.
func plainList(s api.Schema) []placed {
	var all []placed
	var add func(path []int, fields []api.Field)
	add = func(path []int, fields []api.Field) {
		for i, f := range fields {
			here := append(slices.Clone(path), i)
			all = append(all, placed{here, f})
			add(here, f.Fields)
		}
	}
	add(nil, s.Fields)
	return all
}

var plainName = regexp.MustCompile(`\A[a-z][a-z0-9-]{0,15}\z`)

// plainCheck is P11.1, word for word: the number and the path, and which one of the fields it is (-1: none).
func plainCheck(s api.Schema) (api.Errno, []int, int) {
	switch {
	case s.Limit < 1 || s.Limit > 65536:
		return api.ErrSchemaRange, nil, -1
	case len(s.Fields) == 0:
		return api.ErrSchemaEmpty, nil, -1
	}
	all := plainList(s)
	called := map[string]int{} // how many fields so far are called so, in that tuple
	for i, p := range all {
		whole := fmt.Sprint(p.path[:len(p.path)-1], p.f.Name)
		called[whole]++
		why := api.OK
		switch {
		case i+1 == 65:
			why = api.ErrSchemaMany
		case len(p.path) > 16:
			why = api.ErrSchemaDeep
		case !plainName.MatchString(p.f.Name):
			why = api.ErrSchemaName
		case called[whole] > 1:
			why = api.ErrSchemaTwice
		case plainBad(p.f):
			why = api.ErrSchemaRange
		case p.f.Kind == api.Tuple && len(p.f.Fields) == 0:
			why = api.ErrSchemaEmpty
		}
		if why != api.OK {
			return why, p.path, i
		}
	}
	return api.OK, nil, -1
}

// plainBad: it says what may not be.
func plainBad(f api.Field) bool {
	if !slices.Contains([]api.Kind{api.Bool, api.Int, api.Bytes, api.ID, api.Name, api.Text, api.Tuple}, f.Kind) {
		return true
	}
	if !slices.Contains([]api.Nulls{api.NeverNull, api.NullFirst, api.NullLast}, f.Nulls) {
		return true
	}
	bounds := f.Bounded || !reflect.ValueOf(f.Low).IsZero() || !reflect.ValueOf(f.High).IsZero()
	most := f.Most != 0
	collate := !reflect.ValueOf(f.Collate).IsZero()
	fields := len(f.Fields) > 0
	switch f.Kind {
	case api.Int:
		return most || collate || fields || bounds && !f.Bounded || f.Bounded && !plainRises(f.Low, f.High)
	case api.Bytes, api.Name:
		return bounds || collate || fields || f.Most < 0 || f.Most > 65536
	case api.Text:
		right := map[api.Collate]bool{{Strength: 1}: true, {Strength: 2}: true, {Strength: 3}: true, {Strength: 1, Shifted: true}: true, {Strength: 2, Shifted: true}: true, {Strength: 3, Shifted: true}: true, {Strength: 4, Shifted: true}: true}
		return bounds || most || fields || !right[api.Collate{Strength: f.Collate.Strength, Shifted: f.Collate.Shifted}]
	case api.Tuple:
		return bounds || most || collate
	}
	return bounds || most || collate || fields
}

// plainNum is a number, if it may be.
func plainNum(n api.Num) (*big.Int, bool) {
	x := new(big.Int).SetBytes([]byte(n.Mag))
	may := len(n.Mag) <= 255 && string(x.Bytes()) == n.Mag && (n.Mag != "" || !n.Below)
	if n.Below {
		x.Neg(x)
	}
	return x, may
}

// plainRises: both are numbers, and the first one is not above the second.
func plainRises(low, high api.Num) bool {
	a, mayA := plainNum(low)
	b, mayB := plainNum(high)
	return mayA && mayB && a.Cmp(b) <= 0
}

const (
	someBlanks = ` *`
	digitsN    = `(0|[1-9][0-9]{0,6})`
	digitsM    = `(0|-?[1-9][0-9]*)`
	remark     = `(?s: *(?:#.*)?)`
	common     = `( +down)?( +null-first| +null-last)?`
	fieldHead  = someBlanks + `field +([^ #]+) +`
)

// plainReader reads texts with a list of open tuples, where the package calls itself.
type plainReader struct {
	nothing, limit, end, bare, bounded, most, text *regexp.Regexp
}

func newPlainReader() plainReader {
	whole := func(s string) *regexp.Regexp { return regexp.MustCompile(`\A` + s + remark + `\z`) }
	return plainReader{
		nothing: whole(``),
		limit:   whole(someBlanks + `limit +` + digitsN),
		end:     whole(someBlanks + `end`),
		bare:    whole(fieldHead + `(bool|id|tuple)` + common),
		bounded: whole(fieldHead + `(int)` + common + `(?: +from +` + digitsM + ` +to +` + digitsM + `)?`),
		most:    whole(fieldHead + `(bytes|name)` + common + ` +most +` + digitsN),
		text:    whole(fieldHead + `(text)` + common + ` +strength +` + digitsN + `( +shifted)?( +back)?`),
	}
}

// field is the field that a line says, without those within it.
func (r plainReader) field(s string) (api.Field, bool) {
	for _, form := range []*regexp.Regexp{r.bare, r.bounded, r.most, r.text} {
		m := form.FindStringSubmatch(s)
		if m == nil {
			continue
		}
		f := api.Field{Name: m[1], Down: m[3] != ""}
		f.Kind = map[string]api.Kind{"bool": api.Bool, "int": api.Int, "bytes": api.Bytes, "id": api.ID, "name": api.Name, "text": api.Text, "tuple": api.Tuple}[m[2]]
		f.Nulls = map[string]api.Nulls{"": api.NeverNull, "null-first": api.NullFirst, "null-last": api.NullLast}[strings.Trim(m[4], " ")]
		switch form {
		case r.bounded:
			if m[5] == "" {
				return f, true
			}
			f.Bounded = true
			var isLow, isHigh bool
			f.Low, isLow = plainDigits(m[5])
			f.High, isHigh = plainDigits(m[6])
			return f, isLow && isHigh
		case r.most:
			f.Most, _ = strconv.Atoi(m[5])
		case r.text:
			f.Collate.Strength, _ = strconv.Atoi(m[5])
			f.Collate.Shifted, f.Collate.Back = m[6] != "", m[7] != ""
		}
		return f, true
	}
	return api.Field{}, false
}

// plainDigits is the number that digits write, if it is not too long.
func plainDigits(s string) (api.Num, bool) {
	n, is := new(big.Int).SetString(s, 10)
	if !is || len(n.Bytes()) > 255 {
		return api.Num{}, false
	}
	return api.Num{Below: n.Sign() < 0, Mag: string(n.Bytes())}, true
}

// plainLines are the lines of a text, without their ends.
func plainLines(s string) []string {
	lines := strings.Split(s, "\n")
	if lines[len(lines)-1] == "" {
		lines = lines[:len(lines)-1]
	}
	return lines
}

// parse is P11.3, word for word.
func (r plainReader) parse(text string) (api.Schema, *api.Fault) {
	if len(text) > 65536 {
		return api.Schema{}, &api.Fault{Code: api.ErrLong}
	}
	s, lines, bad := r.read(text)
	if bad != 0 {
		return api.Schema{}, &api.Fault{Code: api.ErrSchemaLine, At: bad}
	}
	if why, path, i := plainCheck(s); why != api.OK {
		return api.Schema{}, &api.Fault{Code: why, At: lines[i+1], Path: path}
	}
	if len(plainPrint(s)) > 65536 {
		return api.Schema{}, &api.Fault{Code: api.ErrLong}
	}
	return s, nil
}

// read is the schema that is written, with the lines of limit and of each field, or the line that may not be (0: none).
func (r plainReader) read(text string) (s api.Schema, numbers []int, bad int) {
	lines := plainLines(text)
	open := []*[]api.Field{&s.Fields} // lists that a field may be put behind
	for i, l := range lines {
		if r.nothing.MatchString(l) {
			continue
		}
		if len(numbers) == 0 {
			m := r.limit.FindStringSubmatch(l)
			if m == nil {
				return s, nil, i + 1
			}
			s.Limit, _ = strconv.Atoi(m[1])
			numbers = append(numbers, i+1)
			continue
		}
		if len(open) > 1 && r.end.MatchString(l) {
			open = open[:len(open)-1]
			continue
		}
		f, is := r.field(l)
		if !is {
			return s, nil, i + 1
		}
		numbers = append(numbers, i+1)
		list := open[len(open)-1]
		*list = append(*list, f)
		if f.Kind == api.Tuple {
			open = append(open, &(*list)[len(*list)-1].Fields)
		}
	}
	if len(open) > 1 || len(numbers) == 0 {
		return s, nil, len(lines) + 1
	}
	return s, numbers, 0
}

// plainPrint is P11.4, word for word, however long it is.
func plainPrint(s api.Schema) string {
	out := fmt.Sprintf("limit %d\n", s.Limit)
	var open []int // how many places the paths of those tuples have that are not ended
	for _, p := range append(plainList(s), placed{path: []int{0}}) {
		for len(open) > 0 && open[len(open)-1] >= len(p.path) {
			out += strings.Repeat("  ", open[len(open)-1]-1) + "end\n"
			open = open[:len(open)-1]
		}
		if p.f.Kind == api.Null {
			break
		}
		if p.f.Kind == api.Tuple {
			open = append(open, len(p.path))
		}
		out += strings.Repeat("  ", len(p.path)-1) + strings.Join(plainWords(p.f), " ") + "\n"
	}
	return out
}

// plainWords are the words of a field's line.
func plainWords(f api.Field) []string {
	words := []string{"field", f.Name, []string{"", "bool", "int", "bytes", "id", "name", "text", "tuple"}[f.Kind]}
	if f.Down {
		words = append(words, "down")
	}
	if f.Nulls > 0 {
		words = append(words, []string{"null-first", "null-last"}[f.Nulls-1])
	}
	if f.Bounded {
		low, _ := plainNum(f.Low)
		high, _ := plainNum(f.High)
		words = append(words, "from", low.String(), "to", high.String())
	}
	if f.Kind == api.Bytes || f.Kind == api.Name {
		words = append(words, "most", fmt.Sprint(f.Most))
	}
	if f.Kind == api.Text {
		words = append(words, "strength", fmt.Sprint(f.Collate.Strength))
	}
	if f.Collate.Shifted {
		words = append(words, "shifted")
	}
	if f.Collate.Back {
		words = append(words, "back")
	}
	return words
}

// same tells whether two schemas are the same, where a list without elements is one whether nil or not.
func same(a, b api.Schema) bool { return a.Limit == b.Limit && sameFields(a.Fields, b.Fields) }

func sameFields(a, b []api.Field) bool { return slices.EqualFunc(a, b, sameField) }

func sameField(f, g api.Field) bool {
	is := sameFields(f.Fields, g.Fields)
	f.Fields, g.Fields = nil, nil
	return is && reflect.DeepEqual(f, g)
}

// isFault tells whether an error is a Fault with just these, and nothing it comes of; of OK whether it is nil.
func isFault(err error, code api.Errno, at int, path []int) bool {
	if code == api.OK {
		return err == nil
	}
	f, is := err.(*api.Fault)
	if !is || f == nil || f.Code != code || f.At != at || !slices.Equal(f.Path, path) || f.Why != nil {
		return false
	}
	var as *api.Fault
	return errors.Is(err, code) && errors.As(err, &as) && as == f && (path != nil || f.Path == nil)
}

// told is an error in few words.
func told(err error) string {
	if f, is := err.(*api.Fault); is && f != nil {
		return fmt.Sprintf("error %d at %d path %v why %v", f.Code, f.At, f.Path, f.Why)
	}
	return fmt.Sprint(err)
}

// brief is a text of which not too much is told.
func brief(s string) string {
	if len(s) > 300 {
		return fmt.Sprintf("%q.. (%d bytes)", s[:300], len(s))
	}
	return strconv.Quote(s)
}

func num(n int64) api.Num {
	return api.Num{Below: n < 0, Mag: string(big.NewInt(n).Bytes())}
}

// of is a schema of these fields.
func of(fields ...api.Field) api.Schema { return api.Schema{Limit: 9, Fields: fields} }

func boolField(name string) api.Field { return api.Field{Name: name, Kind: api.Bool} }

func tupleField(name string, fields ...api.Field) api.Field {
	return api.Field{Name: name, Kind: api.Tuple, Fields: fields}
}

func bounded(name string, low, high api.Num) api.Field {
	return api.Field{Name: name, Kind: api.Int, Bounded: true, Low: low, High: high}
}

// many are that many fields, which differ by their names alone.
func many(n int) []api.Field {
	var l []api.Field
	for i := range n {
		l = append(l, boolField("f"+strconv.Itoa(i)))
	}
	return l
}

// nested is a field whose innermost path has that many places, in a schema whose only one it is.
func nested(places int, innermost api.Field) api.Field {
	f := innermost
	for range places - 1 {
		f = tupleField("d", f)
	}
	return f
}

// copyOf is a schema in other memory.
func copyOf(s api.Schema) api.Schema {
	var fields func(l []api.Field) []api.Field
	fields = func(l []api.Field) []api.Field {
		l = slices.Clone(l)
		for i := range l {
			l[i].Fields = fields(l[i].Fields)
		}
		return l
	}
	s.Fields = fields(s.Fields)
	return s
}

// rightField is some field that may be, called so.
func rightField(r *rand.Rand, name string, deep int) api.Field {
	f := api.Field{Name: name, Kind: api.Kind(1 + r.Intn(7)), Down: r.Intn(2) == 0, Nulls: api.Nulls(r.Intn(3))}
	if deep <= 1 && f.Kind == api.Tuple {
		f.Kind = api.ID
	}
	switch f.Kind {
	case api.Int:
		f.Bounded = r.Intn(2) == 0
		if f.Bounded {
			f.Low, f.High = num(r.Int63n(1000)-500), num(500+r.Int63n(1<<40))
		}
	case api.Bytes, api.Name:
		f.Most = []int{0, 1, 8, 65536, r.Intn(65537)}[r.Intn(5)]
	case api.Text:
		f.Collate = api.Collate{Strength: 1 + r.Intn(3), Shifted: r.Intn(2) == 0, Back: r.Intn(2) == 0}
		if f.Collate.Shifted {
			f.Collate.Strength += r.Intn(2)
		}
	case api.Tuple:
		f.Fields = rightFields(r, 1+r.Intn(4), deep-1)
	}
	return f
}

func rightFields(r *rand.Rand, n, deep int) []api.Field {
	names := []string{"a", "b", "c-", "d0", "field", "end", "down", "limit", "most", "z-9-z", "abcdefghijklmnop", "int", "null-first"}
	r.Shuffle(len(names), func(i, k int) { names[i], names[k] = names[k], names[i] })
	var l []api.Field
	for i := range n {
		l = append(l, rightField(r, names[i], deep))
	}
	return l
}

// rightSchema is some schema that may be.
func rightSchema(r *rand.Rand) api.Schema {
	for {
		s := api.Schema{Limit: []int{1, 9, 64, 65535, 65536, 1 + r.Intn(65536)}[r.Intn(6)], Fields: rightFields(r, 1+r.Intn(6), 1+r.Intn(5))}
		if len(plainList(s)) <= 64 {
			return s
		}
	}
}

// at is the field of a schema at which a path ends.
func at(s *api.Schema, path []int) *api.Field {
	fields := s.Fields
	for _, i := range path[:len(path)-1] {
		fields = fields[i].Fields
	}
	return &fields[path[len(path)-1]]
}

// changed is a schema in which one thing is otherwise, perhaps so that it may not be.
func changed(r *rand.Rand, s api.Schema) api.Schema {
	s = copyOf(s)
	all := plainList(s)
	if len(all) == 0 || r.Intn(12) == 0 {
		s.Limit = []int{-1, 0, 1, 65536, 65537}[r.Intn(5)]
		return s
	}
	f := at(&s, all[r.Intn(len(all))].path)
	switch r.Intn(11) {
	case 0:
		f.Name = []string{"", "A", "a", "a_", "-a", "0a", "a ", "a#", "a\n", "abcdefghijklmnop", "abcdefghijklmnopq", "\xff"}[r.Intn(12)]
	case 1:
		f.Kind = api.Kind(r.Intn(9))
	case 2:
		f.Nulls = api.Nulls(r.Intn(5))
	case 3:
		f.Bounded = !f.Bounded
	case 4:
		f.Low = []api.Num{{}, num(1), num(1 << 50), {Below: true}, {Mag: "\x00"}, {Mag: strings.Repeat("\x01", 256)}}[r.Intn(6)]
	case 5:
		f.High = []api.Num{{}, num(-1), num(-1 << 50), {Below: true}, {Mag: "\x00\x01"}, {Mag: strings.Repeat("\x01", 256)}}[r.Intn(6)]
	case 6:
		f.Most = []int{-1, 0, 1, 65536, 65537}[r.Intn(5)]
	case 7:
		f.Collate = api.Collate{Strength: r.Intn(7) - 1, Shifted: r.Intn(2) == 0, Back: r.Intn(2) == 0}
	case 8:
		f.Kind, f.Bounded, f.Low, f.High, f.Most, f.Collate = api.Tuple, false, api.Num{}, api.Num{}, 0, api.Collate{}
		f.Fields = [][]api.Field{nil, {}, {boolField("x")}, many(64), {nested(16, boolField("x"))}}[r.Intn(5)]
	case 9:
		f.Name = all[r.Intn(len(all))].f.Name
	case 10:
		f.Down = !f.Down
	}
	return s
}

// mustPrint is the text of a schema that has one.
func mustPrint(t *testing.T, s api.Schema) string {
	t.Helper()
	text, err := Print(s)
	if err != nil {
		t.Fatal(told(err))
	}
	return text
}
