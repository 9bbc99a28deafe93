package desk_test

import (
	"errors"
	"fmt"
	"strconv"
	"strings"
	"testing"

	"dovetail/api"
	"dovetail/desk"
)

// scriptOf and toldOf read a talk: what is behind `> ` is a line that does something, which is told again; what is behind `|` one that is not (of a block, or one that says nothing); all else is told.
func scriptOf(talk string) string {
	var script []string
	for _, line := range talkLines(talk) {
		if word, is := strings.CutPrefix(line, "> "); is {
			script = append(script, word+"\n")
		} else if word, is := strings.CutPrefix(line, "|"); is {
			script = append(script, word+"\n")
		}
	}
	return strings.Join(script, "")
}

func toldOf(talk string) string {
	var told []string
	for _, line := range talkLines(talk) {
		if !strings.HasPrefix(line, "|") {
			told = append(told, line+"\n")
		}
	}
	return strings.Join(told, "")
}

// talkLines are a talk's lines; empty ones are none.
func talkLines(talk string) []string {
	var lines []string
	for line := range strings.Lines(talk) {
		if line != "\n" {
			lines = append(lines, strings.TrimSuffix(line, "\n"))
		}
	}
	return lines
}

// tells: a script tells just this.
func tells(t testing.TB, script, want string) {
	t.Helper()
	told, err := desk.Run(script)
	if err != nil {
		t.Fatalf("%s: %s", brief(script), fault(err))
	}
	if told != want {
		t.Fatalf("%s:\n%s", brief(script), firstUnlike(told, want))
	}
}

// refuses: a script is refused so, and tells nothing.
func refuses(t testing.TB, script string, code api.Errno, at int) {
	t.Helper()
	told, err := desk.Run(script)
	f, is := err.(*api.Fault)
	if told != "" || !is || f == nil || f.Code != code || f.At != at || len(f.Path) != 0 || f.Why != nil {
		t.Errorf("%s: %s, %s; not error %d at %d", brief(script), brief(told), fault(err), code, at)
	}
}

// runs is what a script tells that is not refused.
func runs(t testing.TB, script string) string {
	t.Helper()
	told, err := desk.Run(script)
	if err != nil {
		t.Fatalf("%s: %s", brief(script), fault(err))
	}
	return told
}

// firstUnlike are the first lines of two texts that are not the same.
func firstUnlike(a, b string) string {
	x, y := strings.Split(a, "\n"), strings.Split(b, "\n")
	for i := range min(len(x), len(y)) {
		if x[i] != y[i] {
			return fmt.Sprintf("line %d: %s; not %s", i+1, brief(x[i]), brief(y[i]))
		}
	}
	return fmt.Sprintf("%d lines, not %d", len(x), len(y))
}

func fault(err error) string {
	var f *api.Fault
	if errors.As(err, &f) {
		return fmt.Sprintf("error %d at %d path %v why %v", f.Code, f.At, f.Path, f.Why)
	}
	return fmt.Sprintf("%T %v", err, err)
}

// brief is as much of a text as fits a few lines.
func brief(s string) string {
	if len(s) > 400 {
		s = s[:200] + " .. " + s[len(s)-200:]
	}
	return strconv.Quote(s)
}
