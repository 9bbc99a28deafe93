package desk

import (
	"errors"
	"strconv"

	"dovetail/api"
	"dovetail/lit"
	"dovetail/value"
)

const (
	prompt  = "> "
	further = "  "
)

// tell does a step: the line, and what it tells.
func (d *desk) tell(x step) []string {
	told, err := x.do(d, x)
	if err != nil {
		told = []string{refused(err)}
	}
	return append([]string{prompt + x.line}, told...)
}

// refused is what is told of an error.
func refused(err error) string {
	f := faultOf(err)
	told := counted("error", int(f.Code)) + blank + counted("at", f.At)
	if len(f.Path) > 0 {
		told += blank + "path"
	}
	for _, place := range f.Path {
		told += blank + strconv.Itoa(place)
	}
	return told
}

// faultOf is an error as a Fault: the one that it is or comes of, or else one that it is wrapped in, as a mere number has no place and no path.
func faultOf(err error) *api.Fault {
	var f *api.Fault
	if errors.As(err, &f) {
		return f
	}
	var e api.Errno
	if errors.As(err, &e) {
		return &api.Fault{Code: e, Why: e}
	}
	return &api.Fault{Why: err}
}

// counted is a word and a number.
func counted(word string, n int) string { return word + blank + strconv.Itoa(n) }

// furtherIn are lines with something ahead of each.
func furtherIn(lines []string) []string {
	var told []string
	for _, line := range lines {
		told = append(told, further+line)
	}
	return told
}

// toldOK is told where nothing is wrong.
func toldOK(err error) ([]string, error) {
	if err != nil {
		return nil, err
	}
	return []string{"ok"}, nil
}

// toldPart is told of a value.
func toldPart(p api.Part) ([]string, error) {
	text, err := printed(p)
	if err != nil {
		return nil, err
	}
	return []string{text}, nil
}

// toldBytes is told of bytes, or what they were refused with.
func toldBytes(s string, err error) ([]string, error) {
	if err != nil {
		return nil, err
	}
	return toldPart(bytesOf(s))
}

// toldRows is told of rows: all of them, or what the text of one is refused with.
func toldRows(rows []api.Row) ([]string, error) {
	var told []string
	for _, r := range rows {
		tuple, err := printed(r.Part)
		if err != nil {
			return nil, err
		}
		kept, err := printed(bytesOf(r.Value))
		if err != nil {
			return nil, err
		}
		told = append(told, tuple+blank+kept)
	}
	return append(furtherIn(told), counted("rows", len(rows))), nil
}

func bytesOf(s string) api.Part { return api.Part{Kind: api.Bytes, Raw: s} }

// printed is a value's text.
func printed(p api.Part) (string, error) {
	v, e := value.Make(p)
	if e != api.OK {
		return "", e
	}
	text, e := lit.Print(v)
	if e != api.OK {
		return "", e
	}
	return text, nil
}
