package image

import (
	"strings"

	"dovetail/api"
	"dovetail/space"
)

// lost is what reading is given up with.
type lost struct{ why api.Errno }

// need gives up if something does not hold.
func need(holds bool, why api.Errno) {
	if !holds {
		panic(lost{why})
	}
}

// needTaken gives up what the space refuses.
func needTaken(err error) { need(err == nil, api.ErrImageForm) }

// reader goes through what stands between an image's beginning and its sum.
type reader struct{ left string }

// newReader begins to read an image; what is none at its ends is given up at once.
func newReader(b string) *reader {
	need(len(b) >= least && strings.HasPrefix(b, beginning), api.ErrImageForm)
	end := len(b) - sumSize
	need(numberOf(b[end:]) == sumOf(b[:end]), api.ErrImageSum)
	return &reader{left: b[len(beginning):end]}
}

// take reads the next bytes, so many.
func (r *reader) take(n uint64) string {
	need(n <= uint64(len(r.left)), api.ErrImageForm)
	taken := r.left[:n]
	r.left = r.left[n:]
	return taken
}

func (r *reader) number() uint64 { return numberOf(r.take(numberSize)) }

func (r *reader) piece() string { return r.take(r.number()) }

func takeTables(r *reader, s *space.Space) {
	marks := r.piece()
	entries := r.piece()
	needTaken(s.Tables(marks, entries))
}

// takeSchemas reads as many as there are said to be. Where that is more than can be, the bytes come to their end first.
func takeSchemas(r *reader, s *space.Space) {
	for range r.number() {
		name := r.piece()
		text := r.piece()
		needTaken(s.Define(name, text))
		takeRows(r, s, name)
	}
}

func takeRows(r *reader, s *space.Space, name string) {
	for range r.number() {
		key := r.piece()
		kept := r.piece()
		needTaken(s.Import(name, key, kept))
	}
}
