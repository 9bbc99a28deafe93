package table

import (
	"strings"

	"dovetail/api"
)

const (
	fewDigits  = 4 // that a point has at least, and each weight
	manyDigits = 6 // that a point has at most
	hexDigits  = "0123456789ABCDEF"

	elementSize = len("[.0000.0000.0000]")
)

// Load reads one; with an error the line.
func Load(text string) (*Table, api.Errno, int) {
	if len(text) > api.MaxText {
		return nil, api.ErrLong, 0
	}
	t := &Table{entries: map[row][]api.Element{}, longest: map[int]int{}}
	for i, s := range strings.Split(text, "\n") {
		if s == "" || s[0] == '#' {
			continue
		}
		if why := t.take(s); why != api.OK {
			return nil, why, i + 1
		}
	}
	return t, api.OK, 0
}

// take reads an entry's line and keeps the entry.
func (t *Table) take(s string) api.Errno {
	r, elements, is := readEntry(s)
	if !is {
		return api.ErrTableLine
	}
	if !allRight(elements) {
		return api.ErrTableWeight
	}
	if _, twice := t.entries[r]; twice {
		return api.ErrTableTwice
	}
	if len(t.entries) >= api.MaxEntries {
		return api.ErrLong
	}
	t.add(r, elements)
	return api.OK
}

// readEntry reads an entry's line, whatever its weights are; false: it is none.
func readEntry(s string) (row, []api.Element, bool) {
	left, right, _ := strings.Cut(s, ";")
	r, is := readRow(left)
	if !is {
		return row{}, nil, false
	}
	elements, is := readElements(right)
	return r, elements, is
}

// readRow reads the points of an entry.
func readRow(s string) (row, bool) {
	var points []int
	for _, digits := range strings.Split(s, " ") {
		point, is := readPoint(digits)
		if !is {
			return row{}, false
		}
		points = append(points, point)
	}
	return rowOf(points)
}

// readPoint reads a point's digits: more than four only where the first one is not 0. Which numbers are points, rowOf knows.
func readPoint(s string) (int, bool) {
	if len(s) < fewDigits || len(s) > manyDigits || len(s) > fewDigits && s[0] == '0' {
		return 0, false
	}
	return readHex(s)
}

// readElements reads the elements of an entry, at least one.
func readElements(s string) ([]api.Element, bool) {
	if s == "" || len(s) > api.MaxElements*elementSize || len(s)%elementSize != 0 {
		return nil, false
	}
	var l []api.Element
	for at := 0; at < len(s); at += elementSize {
		e, is := readElement(s[at : at+elementSize])
		if !is {
			return nil, false
		}
		l = append(l, e)
	}
	return l, true
}

// readElement reads a text of an element's size.
func readElement(s string) (api.Element, bool) {
	end := len(s) - 1
	if s[0] != '[' || s[1] != '.' && s[1] != '*' || s[end] != ']' {
		return api.Element{}, false
	}
	fields := strings.Split(s[2:end], ".")
	if len(fields) != 3 {
		return api.Element{}, false
	}
	var weights [3]int
	for i, digits := range fields {
		n, is := readHex(digits)
		if !is || len(digits) != fewDigits {
			return api.Element{}, false
		}
		weights[i] = n
	}
	return api.Element{Variable: s[1] == '*', Primary: weights[0], Secondary: weights[1], Tertiary: weights[2]}, true
}

// readHex reads a few digits.
func readHex(s string) (int, bool) {
	n := 0
	for i := range len(s) {
		digit := strings.IndexByte(hexDigits, s[i])
		if digit < 0 {
			return 0, false
		}
		n = n<<4 + digit
	}
	return n, true
}
