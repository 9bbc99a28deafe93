package image

import (
	"strings"

	"dovetail/schema"
	"dovetail/space"
)

// writer puts an image together, from the front on.
type writer struct{ strings.Builder }

// low writes the lowest bytes of a number, so many, the lowest first.
func (w *writer) low(n uint64, size int) {
	for i := range size {
		w.WriteByte(byte(n >> (8 * i)))
	}
}

func (w *writer) number(n int) { w.low(uint64(n), numberSize) }

func (w *writer) piece(s string) {
	w.number(len(s))
	w.WriteString(s)
}

func putTables(w *writer, s *space.Space) {
	marks, entries := s.Texts()
	w.piece(marks)
	w.piece(entries)
}

func putSchemas(w *writer, s *space.Space) {
	names := s.Names()
	w.number(len(names))
	for _, name := range names {
		w.piece(name)
		w.piece(textOf(s, name))
		putRows(w, s, name)
	}
}

// textOf is a schema as it is printed. The space took it from a text, so it is there, and neither wrong nor too long.
func textOf(s *space.Space, name string) string {
	x, _ := s.Schema(name)
	text, _ := schema.Print(x)
	return text
}

func putRows(w *writer, s *space.Space, name string) {
	rows, _ := s.Pairs(name) // the name is one of the space's
	w.number(len(rows))
	for _, r := range rows {
		w.piece(r.Key)
		w.piece(r.Value)
	}
}
