package lit

import (
	"fmt"
	"math/big"
	"math/rand"
	"regexp"
	"strings"
	"testing"

	"dovetail/api"
	"dovetail/value"
)

// What the tests hold the package against: the chapter's words, read by the library's means.

const (
	hexPair = `(?:[0-9a-f][0-9a-f])`
	odd     = `\\x(?:[01][0-9a-f]|7f|[89a-f][0-9a-f])` // bytes that do not stand as they are
)

// plainLeaf is how values of a kind are written, and what must not stand right behind one.
type plainLeaf struct {
	kind api.Kind
	form *regexp.Regexp
	more *regexp.Regexp
}

// plainLeaves are the kinds of values that are no tuples.
func plainLeaves() []plainLeaf {
	return []plainLeaf{
		{api.Null, regexp.MustCompile(`^null`), nil},
		{api.Bool, regexp.MustCompile(`^(?:yes|no)`), nil},
		{api.Int, regexp.MustCompile(`^(?:0|-?[1-9][0-9]*)`), regexp.MustCompile(`^[0-9]`)},
		{api.Bytes, regexp.MustCompile(`^x` + hexPair + `*`), regexp.MustCompile(`^[0-9a-f]`)},
		{api.ID, regexp.MustCompile(`^#` + hexPair + `{16}`), regexp.MustCompile(`^[0-9a-f]`)},
		{api.Name, regexp.MustCompile(`^'(?:[ -&(-\[\]-~]|\\['\\]|` + odd + `)*'`), nil},
		{api.Text, regexp.MustCompile(`^"(?:[ !#-\[\]-~]|\\["\\]|` + odd + `)*"`), nil},
	}
}

// plainReader reads texts with a list of open tuples, where the package calls itself.
type plainReader struct{ leaves []plainLeaf }

func newPlainReader() plainReader { return plainReader{plainLeaves()} }

// leaf is the value at the beginning of a text, and how long it is.
func (r plainReader) leaf(s string) (api.Part, int, bool) {
	for _, l := range r.leaves {
		word := l.form.FindString(s)
		if word == "" {
			continue
		}
		if l.more != nil && l.more.MatchString(s[len(word):]) {
			return api.Part{}, 0, false
		}
		p, is := plainPart(l.kind, word)
		return p, len(word), is
	}
	return api.Part{}, 0, false
}

// plainPart is the part that a word of that kind tells.
func plainPart(k api.Kind, word string) (api.Part, bool) {
	p := api.Part{Kind: k}
	switch k {
	case api.Bool:
		p.Yes = word == "yes"
	case api.Int:
		n, is := new(big.Int).SetString(word, 10)
		if !is || len(n.Bytes()) > 255 {
			return api.Part{}, false
		}
		p.Num = api.Num{Below: n.Sign() < 0, Mag: string(n.Bytes())}
	case api.Bytes, api.ID:
		fmt.Sscanf(word[1:], "%x", &p.Raw)
	case api.Name, api.Text:
		p.Raw = plainUnquote(word[1 : len(word)-1])
	}
	return p, true
}

func plainUnquote(s string) string {
	return regexp.MustCompile(`\\x..|\\.`).ReplaceAllStringFunc(s, func(word string) string {
		if len(word) == 2 {
			return word[1:]
		}
		var raw string
		fmt.Sscanf(word[2:], "%x", &raw)
		return raw
	})
}

// parse is what Parse is to answer of a text.
func (r plainReader) parse(s string) (api.Part, api.Errno, int) {
	if len(s) > 65536 {
		return api.Part{}, api.ErrLong, 0
	}
	var open []api.Part
	wantsValue := true
	for at := 0; ; {
		var done api.Part
		switch {
		case wantsValue && strings.HasPrefix(s[at:], "("):
			if len(open) == 16 {
				return api.Part{}, api.ErrLitForm, at
			}
			open = append(open, api.Part{Kind: api.Tuple})
			at++
			if !strings.HasPrefix(s[at:], ")") {
				continue
			}
			done, open = open[len(open)-1], open[:len(open)-1]
			at++
		case wantsValue:
			p, n, is := r.leaf(s[at:])
			if !is {
				return api.Part{}, api.ErrLitForm, at
			}
			done = p
			at += n
		case strings.HasPrefix(s[at:], ")"):
			done, open = open[len(open)-1], open[:len(open)-1]
			at++
		case strings.HasPrefix(s[at:], " ") && len(open[len(open)-1].Items) < 1024:
			wantsValue = true
			at++
			continue
		default:
			return api.Part{}, api.ErrLitForm, at
		}
		if len(open) == 0 {
			if at != len(s) {
				return api.Part{}, api.ErrLitForm, at
			}
			return done, api.OK, 0
		}
		top := &open[len(open)-1]
		top.Items = append(top.Items, done)
		wantsValue = false
	}
}

// plainPrint is the chapter's table, row by row.
func plainPrint(p api.Part) string {
	switch p.Kind {
	case api.Null:
		return "null"
	case api.Bool:
		return map[bool]string{true: "yes", false: "no"}[p.Yes]
	case api.Int:
		n := new(big.Int).SetBytes([]byte(p.Num.Mag))
		if p.Num.Below {
			n.Neg(n)
		}
		return n.String()
	case api.Bytes:
		return fmt.Sprintf("x%x", p.Raw)
	case api.ID:
		return fmt.Sprintf("#%x", p.Raw)
	case api.Name:
		return "'" + plainQuote(p.Raw, "'") + "'"
	case api.Text:
		return `"` + plainQuote(p.Raw, `"`) + `"`
	}
	items := make([]string, len(p.Items))
	for i, item := range p.Items {
		items[i] = plainPrint(item)
	}
	return "(" + strings.Join(items, " ") + ")"
}

func plainQuote(s, quote string) string {
	var out strings.Builder
	for _, c := range []byte(s) {
		switch {
		case c == quote[0], c == 0x5c:
			out.Write([]byte{0x5c, c})
		case c >= 0x20 && c <= 0x7e:
			out.WriteByte(c)
		default:
			fmt.Fprintf(&out, `\x%02x`, c)
		}
	}
	return out.String()
}

// sameParts tells whether two parts are the same; a list without elements may be nil or not.
func sameParts(a, b api.Part) bool {
	if a.Kind != b.Kind || a.Yes != b.Yes || a.Num != b.Num || a.Raw != b.Raw || len(a.Items) != len(b.Items) {
		return false
	}
	for i := range a.Items {
		if !sameParts(a.Items[i], b.Items[i]) {
			return false
		}
	}
	return true
}

// brief is a text as a test tells it: as much as fits a line.
func brief(s string) string {
	if len(s) > 120 {
		return fmt.Sprintf("%q.. (%d bytes)", s[:120], len(s))
	}
	return fmt.Sprintf("%q", s)
}

// must is the value of a part that may be.
func must(t *testing.T, p api.Part) value.Value {
	t.Helper()
	v, e := value.Make(p)
	if e != api.OK {
		t.Fatalf("%s: error %d", brief(plainPrint(p)), e)
	}
	return v
}

func row(items ...api.Part) api.Part { return api.Part{Kind: api.Tuple, Items: items} }

// nested is a part with that many tuples about it.
func nested(n int, p api.Part) api.Part {
	for range n {
		p = row(p)
	}
	return p
}

func num(decimal string) api.Part {
	p, is := plainPart(api.Int, decimal)
	if !is {
		panic(decimal)
	}
	return p
}

func rawOf(k api.Kind, s string) api.Part { return api.Part{Kind: k, Raw: s} }

// someLeaves are values that are no tuples, those at the edges among them.
func someLeaves() []api.Part {
	all := []api.Part{{}, {Kind: api.Bool}, {Kind: api.Bool, Yes: true}}
	for _, n := range []string{"0", "1", "9", "10", "-1", "-9", "-10", "255", "256", "-256", "1000000000", "-18446744073709551616"} {
		all = append(all, num(n))
	}
	for _, mag := range []string{strings.Repeat("\xff", 255), "\x01" + strings.Repeat("\x00", 254), "\xff"} {
		all = append(all, api.Part{Kind: api.Int, Num: api.Num{Mag: mag}}, api.Part{Kind: api.Int, Num: api.Num{Below: true, Mag: mag}})
	}
	every := make([]byte, 256)
	for i := range every {
		every[i] = byte(i)
	}
	for _, s := range []string{"", "a", " ", "'", `"`, `\`, `'"\`, `\\`, `\x41`, "x41", "\x00", "\n", "\x1f", " ~", "\x7f", "\x80", "\xff\xfe", "\u00e1", ") (", "null", string(every)} {
		all = append(all, rawOf(api.Bytes, s), rawOf(api.Name, s), rawOf(api.Text, s))
	}
	for _, s := range []string{"0123456789abcdef", strings.Repeat("\x00", 16), strings.Repeat("\xff", 16), "\x00\x01\x02\x03\x04\x05\x06\x07\x08\x09\x0a\x0b\x0c\x0d\x0e\x0f"} {
		all = append(all, rawOf(api.ID, s))
	}
	return all
}

// someParts are values of every shape.
func someParts() []api.Part {
	leaves := someLeaves()
	all := append([]api.Part{row(), row(row()), row(row(), row()), row(row(row(), api.Part{}), row()), nested(16, api.Part{}), nested(15, row()),
		row(nested(15, num("1")), nested(3, row()), nested(15, num("2"))), row(leaves...), row(row(leaves...), row(leaves...)),
		row(make([]api.Part, 1024)...), row(row(make([]api.Part, 1024)...), row(make([]api.Part, 1024)...))}, leaves...)
	for _, p := range leaves {
		all = append(all, row(p), row(p, p), nested(16, p))
	}
	r := rand.New(rand.NewSource(10))
	for range 400 {
		all = append(all, randomPart(r, leaves, 5))
	}
	return all
}

func randomPart(r *rand.Rand, leaves []api.Part, deep int) api.Part {
	if deep == 0 || r.Intn(3) == 0 {
		return leaves[r.Intn(len(leaves))]
	}
	p := row()
	for range r.Intn(5) {
		p.Items = append(p.Items, randomPart(r, leaves, deep-1))
	}
	return p
}
