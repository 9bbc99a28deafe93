package schema

import (
	"slices"
	"strings"

	"dovetail/api"
	"dovetail/nat"
)

const (
	limitWord     = "limit"
	fieldWord     = "field"
	endWord       = "end"
	downWord      = "down"
	nullFirstWord = "null-first"
	nullLastWord  = "null-last"

	mostDigits = 7 // of a limit, of how many bytes, of a strength
)

// reader goes through a text line by line.
type reader struct {
	left  []line // those that say something, and have not been read yet
	after int    // the number of a line behind the last one
	lines []int  // the number of limit's line, and of the fields', as they are gone through
}

func newReader(text string) *reader {
	r := &reader{after: 1}
	for s := range strings.Lines(text) {
		if words := wordsOf(s); len(words) > 0 {
			r.left = append(r.left, line{r.after, words})
		}
		r.after++
	}
	return r
}

// wordsOf are the words of a line, without its remark.
func wordsOf(s string) []string {
	s, _, _ = strings.Cut(strings.TrimSuffix(s, "\n"), "#")
	return strings.FieldsFunc(s, func(c rune) bool { return c == ' ' })
}

// next takes the next line that says something; where there is none, one behind the last line that has no words, so that whatever is wanted of it is lacking there.
func (r *reader) next() line {
	if len(r.left) == 0 {
		return line{number: r.after}
	}
	l := r.left[0]
	r.left = r.left[1:]
	return l
}

func (r *reader) readSchema() api.Schema {
	l := r.next()
	r.lines = append(r.lines, l.number)
	l.needWord(limitWord)
	s := api.Schema{Limit: l.takeCount()}
	l.needEnd()
	for len(r.left) > 0 {
		s.Fields = append(s.Fields, r.readField(r.next()))
	}
	return s
}

// readField reads a field's line and, of a tuple, those of its fields.
func (r *reader) readField(l line) api.Field {
	r.lines = append(r.lines, l.number)
	l.needWord(fieldWord)
	f := api.Field{Name: strings.Clone(l.take())}
	f.Kind = l.takeKind()
	f.Down = l.skip(downWord)
	f.Nulls = l.takeNulls()
	kinds()[f.Kind].read(&l, &f)
	l.needEnd()
	if f.Kind == api.Tuple {
		f.Fields = r.readWithin()
	}
	return f
}

// readWithin reads the fields of a tuple, and the line that ends it.
func (r *reader) readWithin() []api.Field {
	var fields []api.Field
	for l := r.next(); !l.isEnd(); l = r.next() {
		fields = append(fields, r.readField(l))
	}
	return fields
}

// line is one of a text: its number, and the words that have not been read yet.
type line struct {
	number int
	words  []string
}

// need gives the line up if something does not hold.
func (l *line) need(holds bool) {
	if !holds {
		panic(lost{why: api.ErrSchemaLine, line: l.number})
	}
}

func (l *line) needEnd() { l.need(len(l.words) == 0) }

func (l *line) needWord(word string) { l.need(l.skip(word)) }

// isEnd tells whether it is the line that ends a tuple.
func (l *line) isEnd() bool { return len(l.words) == 1 && l.words[0] == endWord }

// skip goes on behind a word, if it stands here.
func (l *line) skip(word string) bool {
	if len(l.words) == 0 || l.words[0] != word {
		return false
	}
	l.words = l.words[1:]
	return true
}

// take reads any word.
func (l *line) take() string {
	l.need(len(l.words) > 0)
	word := l.words[0]
	l.words = l.words[1:]
	return word
}

func (l *line) takeKind() api.Kind {
	word := l.take()
	at := slices.IndexFunc(kinds(), func(k kind) bool { return k.word == word })
	l.need(at >= 0)
	return api.Kind(at)
}

func (l *line) takeNulls() api.Nulls {
	switch {
	case l.skip(nullFirstWord):
		return api.NullFirst
	case l.skip(nullLastWord):
		return api.NullLast
	}
	return api.NeverNull
}

// takeCount reads a few digits, without a 0 ahead.
func (l *line) takeCount() int {
	word := l.take()
	l.need(len(word) <= mostDigits && (word == "0" || word[0] != '0'))
	n := 0
	for i := range len(word) {
		l.need(isDigit(word[i]))
		n = n*10 + int(word[i]-'0')
	}
	return n
}

func (l *line) takeNumber() api.Num {
	n, why := nat.Parse(l.take())
	l.need(why == api.OK)
	return n
}
