package lit

import (
	"strings"

	"dovetail/api"
	"dovetail/nat"
	"dovetail/value"
)

// reader goes through a text from the left; at is the place that it has come to.
type reader struct {
	text string
	at   int
}

// need gives up, at a place, what does not hold.
func need(holds bool, at int) {
	if !holds {
		panic(lost{why: api.ErrLitForm, at: at})
	}
}

// skip goes on behind a word, if it stands here.
func (r *reader) skip(word string) bool {
	if !strings.HasPrefix(r.text[r.at:], word) {
		return false
	}
	r.at += len(word)
	return true
}

// row goes on behind the longest row of bytes that are among these.
func (r *reader) row(among string) string {
	from := r.at
	for r.at < len(r.text) && strings.IndexByte(among, r.text[r.at]) >= 0 {
		r.at++
	}
	return r.text[from:r.at]
}

// readValue reads what must be a value, with that many tuples about it.
func (r *reader) readValue(deep int) value.Value {
	need(r.at < len(r.text), r.at)
	switch r.text[r.at] {
	case '-', '0', '1', '2', '3', '4', '5', '6', '7', '8', '9':
		return r.readNumber()
	case 'x':
		return r.readBytes()
	case '#':
		return r.readID()
	case nameQuote:
		return r.readQuoted(api.Name, nameQuote)
	case textQuote:
		return r.readQuoted(api.Text, textQuote)
	case '(':
		return r.readList(deep + 1)
	}
	return r.readWord()
}

// readWord reads one of the words; no other value is left that could stand here.
func (r *reader) readWord() value.Value {
	from := r.at
	switch {
	case r.skip(null):
		return nil
	case r.skip(yes):
		return made(api.Part{Kind: api.Bool, Yes: true}, from)
	}
	need(r.skip(no), from)
	return made(api.Part{Kind: api.Bool}, from)
}

func (r *reader) readNumber() value.Value {
	from := r.at
	r.at++
	r.row(ten)
	n, e := nat.Parse(r.text[from:r.at])
	need(e == api.OK, from)
	return made(api.Part{Kind: api.Int, Num: n}, from)
}

func (r *reader) readBytes() value.Value {
	from := r.at
	r.at++
	row := r.row(sixteen)
	need(len(row)%2 == 0, from)
	return made(api.Part{Kind: api.Bytes, Raw: undigits(row)}, from)
}

func (r *reader) readID() value.Value {
	from := r.at
	r.at++
	row := r.row(sixteen)
	need(len(row) == idDigits, from)
	return made(api.Part{Kind: api.ID, Raw: undigits(row)}, from)
}

// undigits is the bytes of an even number of digits of sixteen.
func undigits(row string) string {
	out := make([]byte, len(row)/2)
	for i := range out {
		out[i] = undigit(row[2*i])<<4 | undigit(row[2*i+1])
	}
	return string(out)
}

// undigit is what a digit of sixteen stands for; of another byte it is some number.
func undigit(c byte) byte { return byte(strings.IndexByte(sixteen, c)) }

func (r *reader) readQuoted(kind api.Kind, quote byte) value.Value {
	from := r.at
	around := string([]byte{quote})
	r.skip(around)
	var out []byte
	for !r.skip(around) {
		c := meant(r.text[r.at:])
		// what stands here can be another way to write that byte, or no way at all
		need(r.skip(spelt(c, quote)), from)
		out = append(out, c)
	}
	return made(api.Part{Kind: kind, Raw: string(out)}, from)
}

// meant is the byte that a text's beginning is the spelling of, if it is one of any.
func meant(s string) byte {
	switch {
	case len(s) >= 4 && s[0] == escape && s[1] == 'x':
		return undigit(s[2])<<4 | undigit(s[3])
	case len(s) >= 2 && s[0] == escape:
		return s[1]
	case s != "":
		return s[0]
	}
	return 0
}

// readList reads a tuple that is the deep-th of those that stand within one another.
func (r *reader) readList(deep int) value.Value {
	from := r.at
	need(deep <= api.MaxDepth, from)
	r.skip("(")
	var items []value.Value
	for !r.skip(")") {
		if len(items) > 0 {
			r.needBlank(len(items))
		}
		items = append(items, r.readValue(deep))
	}
	l, e := value.Of(items...)
	need(e == api.OK, from)
	return l
}

// needBlank goes on behind a blank, which must stand here and have room for one more item behind it.
func (r *reader) needBlank(items int) {
	from := r.at
	need(items < api.MaxItems && r.skip(" "), from)
}

// made is the value of a part that was read from that place on.
func made(p api.Part, from int) value.Value {
	v, e := value.Make(p)
	need(e == api.OK, from)
	return v
}
