package table

import (
	"slices"
	"strconv"
	"strings"

	"dovetail/api"
)

// Print is the text of such entries.
func Print(l []api.Entry) (string, api.Errno) {
	if len(l) > api.MaxEntries {
		return "", api.ErrLong
	}
	var ahead []int
	for _, e := range l {
		_, may := rowOf(e.Points)
		if !may || !allRight(e.Elements) || slices.Compare(ahead, e.Points) >= 0 {
			return "", api.ErrArg
		}
		ahead = e.Points
	}
	return writeLines(l)
}

// writeLines is the text of entries that may be.
func writeLines(l []api.Entry) (string, api.Errno) {
	var text []byte
	for i, e := range l {
		if i > 0 {
			text = append(text, '\n')
		}
		text = appendEntry(text, e)
		if len(text) > api.MaxText {
			return "", api.ErrLong
		}
	}
	return string(text), api.OK
}

// appendEntry puts an entry's line behind a text.
func appendEntry(text []byte, e api.Entry) []byte {
	for i, point := range e.Points {
		if i > 0 {
			text = append(text, ' ')
		}
		text = appendHex(text, point)
	}
	text = append(text, ';')
	for _, element := range e.Elements {
		text = appendElement(text, element)
	}
	return text
}

// appendElement puts an element's text behind a text.
func appendElement(text []byte, e api.Element) []byte {
	sign := byte('.')
	if e.Variable {
		sign = '*'
	}
	text = appendHex(append(text, '[', sign), e.Primary)
	text = appendHex(append(text, '.'), e.Secondary)
	text = appendHex(append(text, '.'), e.Tertiary)
	return append(text, ']')
}

// appendHex puts a number's digits behind a text: four, or as many as it needs.
func appendHex(text []byte, n int) []byte {
	s := strings.ToUpper(strconv.FormatInt(int64(n), 16))
	for range fewDigits - len(s) {
		text = append(text, '0')
	}
	return append(text, s...)
}
