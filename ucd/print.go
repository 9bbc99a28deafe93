package ucd

import (
	"strconv"
	"strings"

	"dovetail/api"
)

// Print is the text of such points.
func Print(l []api.Mark) (string, api.Errno) {
	if len(l) > api.MaxEntries {
		return "", api.ErrLong
	}
	above := -1
	for _, m := range l {
		if m.Point <= above || !mayBe(m) {
			return "", api.ErrArg
		}
		above = m.Point
	}
	return writeLines(l)
}

// mayBe tells whether a mark can stand on a line.
func mayBe(m api.Mark) bool {
	for _, part := range m.Parts {
		if !mayStand(part) {
			return false
		}
	}
	return mayStand(m.Point) && m.Class >= 0 && m.Class <= maxClass
}

// writeLines is the text of marks that may be. Of a mark whose parts alone, at a byte each, are too many nothing is written, so that no list takes much more room than a text.
func writeLines(l []api.Mark) (string, api.Errno) {
	var text []byte
	for i, m := range l {
		if len(m.Parts) > api.MaxText {
			return "", api.ErrLong
		}
		if i > 0 {
			text = append(text, '\n')
		}
		text = appendMark(text, m)
		if len(text) > api.MaxText {
			return "", api.ErrLong
		}
	}
	return string(text), api.OK
}

// appendMark puts a mark's line behind a text.
func appendMark(text []byte, m api.Mark) []byte {
	text = append(appendPoint(text, m.Point), ';')
	text = append(strconv.AppendInt(text, int64(m.Class), 10), ';')
	for i, part := range m.Parts {
		if i > 0 {
			text = append(text, ' ')
		}
		text = appendPoint(text, part)
	}
	return text
}

// appendPoint puts a point's digits behind a text.
func appendPoint(text []byte, point int) []byte {
	s := strings.ToUpper(strconv.FormatInt(int64(point), 16))
	for range fewDigits - len(s) {
		text = append(text, '0')
	}
	return append(text, s...)
}
