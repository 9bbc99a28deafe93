package desk

import (
	"strings"

	"dovetail/api"
	"dovetail/lit"
	"dovetail/value"
)

const (
	maxLines = 1000

	lineEnd  = "\n"
	blank    = " "
	remark   = "#"
	blockEnd = "done"
)

// step is a line that does something.
type step struct {
	number int // of the line
	line   string
	args   []api.Part
	block  string
	do     func(*desk, step) ([]string, error)
}

// reader goes through a text's lines.
type reader struct {
	lines    []string // with their line feeds
	at       int      // how many have been read
	commands map[string]command
}

// badLine is the Fault of a line that may not be.
func badLine(number int) error { return &api.Fault{Code: api.ErrDeskLine, At: number} }

// read is what a text's lines do.
func read(text string) ([]step, error) {
	r := &reader{lines: linesOf(text), commands: commands()}
	var steps []step
	for r.at < len(r.lines) {
		line, err := r.next()
		if err != nil {
			return nil, err
		}
		if line == "" || strings.HasPrefix(line, remark) {
			continue
		}
		x, err := r.step(line)
		if err != nil {
			return nil, err
		}
		steps = append(steps, x)
	}
	return steps, nil
}

// linesOf are a text's lines. Behind the last line feed there is one only if something stands there.
func linesOf(text string) []string {
	lines := strings.SplitAfter(text, lineEnd)
	if last := len(lines) - 1; lines[last] == "" {
		return lines[:last]
	}
	return lines
}

// next is the next line, without its line feed.
func (r *reader) next() (string, error) {
	line, ended := strings.CutSuffix(r.lines[r.at], lineEnd)
	r.at++
	if !ended || r.at > maxLines {
		return "", badLine(r.at)
	}
	return line, nil
}

// step is what the line does that was read last, with its block, if one must stand behind it.
func (r *reader) step(line string) (step, error) {
	x := step{number: r.at, line: line}
	word, behind, more := strings.Cut(line, blank)
	c, is := r.commands[word]
	if !is || more && behind == "" {
		return step{}, badLine(x.number)
	}
	x.args, is = argsOf(behind)
	if !is || !c.takesAll(x.args) {
		return step{}, badLine(x.number)
	}
	x.do = c.do
	var err error
	if c.block {
		x.block, err = r.block()
	}
	return x, err
}

// argsOf are the arguments that a text writes.
func argsOf(text string) ([]api.Part, bool) {
	v, e, _ := lit.Parse("(" + text + ")")
	return value.Tell(v).Items, e == api.OK
}

// block is the text of the lines up to the one that ends it.
func (r *reader) block() (string, error) {
	var text strings.Builder
	for r.at < len(r.lines) {
		line, err := r.next()
		if err != nil {
			return "", err
		}
		if line == blockEnd {
			return text.String(), nil
		}
		text.WriteString(line + lineEnd)
	}
	return "", badLine(len(r.lines) + 1)
}
