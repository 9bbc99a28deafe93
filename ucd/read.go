package ucd

import (
	"strings"

	"dovetail/api"
)

const (
	fewDigits   = 4 // that a point has at least
	manyDigits  = 6 // that a point has at most
	maxClass    = 254
	classDigits = 3 // that a class has at most
)

// lost is what a reader gives up with: why, and at which line.
type lost struct {
	why  api.Errno
	line int
}

// place is where a point's mark stands.
type place struct {
	point int
	line  int
}

// reader goes through a text line by line.
type reader struct {
	line   int
	marks  map[int]mark
	places []place // of all marks, in the order of their lines
}

func (r *reader) readLines(text string) {
	for _, s := range strings.Split(text, "\n") {
		r.line++
		if s != "" && s[0] != '#' {
			r.readMark(s)
		}
	}
}

// readMark reads a mark's line.
func (r *reader) readMark(s string) {
	fields := strings.Split(s, ";")
	r.need(len(fields) == 3, api.ErrUcdLine)
	point := r.readPoint(fields[0])
	m := mark{class: r.readClass(fields[1]), parts: r.readParts(fields[2])}
	_, twice := r.marks[point]
	r.need(!twice, api.ErrUcdTwice)
	r.need(len(r.places) < api.MaxEntries, api.ErrLong)
	r.marks[point] = m
	r.places = append(r.places, place{point, r.line})
}

// readPoint reads a point's digits: more than four only where the first one is not 0.
func (r *reader) readPoint(s string) int {
	r.need(len(s) == fewDigits || len(s) > fewDigits && len(s) <= manyDigits && s[0] != '0', api.ErrUcdLine)
	n := 0
	for i := range len(s) {
		n = n<<4 + r.readHex(s[i])
	}
	r.need(mayStand(n), api.ErrUcdLine)
	return n
}

func (r *reader) readHex(c byte) int {
	if c >= 'A' && c <= 'F' {
		return int(c-'A') + 10
	}
	return r.readDecimal(c)
}

func (r *reader) readDecimal(c byte) int {
	r.need(c >= '0' && c <= '9', api.ErrUcdLine)
	return int(c - '0')
}

func (r *reader) readClass(s string) int {
	r.need(s == "0" || s != "" && s[0] != '0' && len(s) <= classDigits, api.ErrUcdLine)
	n := 0
	for i := range len(s) {
		n = n*10 + r.readDecimal(s[i])
	}
	r.need(n <= maxClass, api.ErrUcdLine)
	return n
}

func (r *reader) readParts(s string) []int {
	if s == "" {
		return nil
	}
	var l []int
	for _, part := range strings.Split(s, " ") {
		l = append(l, r.readPoint(part))
	}
	return l
}

// need gives the line up if something does not hold.
func (r *reader) need(holds bool, why api.Errno) {
	if !holds {
		panic(lost{why, r.line})
	}
}
