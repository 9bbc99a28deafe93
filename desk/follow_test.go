package desk_test

import (
	"fmt"
	"math/rand"
	"strconv"
	"strings"
	"sync"
	"testing"

	"dovetail/api"
	"dovetail/desk"
)

// some is one of several.
func some[T any](r *rand.Rand, l ...T) T { return l[r.Intn(len(l))] }

// anyValue is some value's text, of one of those kinds that a field may have; seldom of another one.
func anyValue(r *rand.Rand, kind string) string {
	if r.Intn(12) == 0 {
		kind = some(r, "bool", "int", "bytes", "name", "text", "id", "tuple", "null")
	}
	switch kind {
	case "bool":
		return some(r, "yes", "no")
	case "int":
		return some(r, "0", "1", "-1", "2", "255", "256", "-256", "99999999999999999999")
	case "bytes":
		return some(r, "x", "x00", "x61", "x6162", "xff", "x6100", "x616263")
	case "name":
		return some(r, "''", "'a'", "'ab'", "'\\x00'", "'\\xc3\\xa1'", "'\\xff'", "'it\\'s'")
	case "text":
		return some(r, `""`, `"a"`, `"A"`, `"b"`, `"\xc3\xa1"`, `"a\xcc\x81"`, `"ab"`, `"z"`)
	case "id":
		return "#" + strings.Repeat(some(r, "00", "7f", "ff"), 16)
	case "tuple":
		return "(" + anyValue(r, "int") + " " + anyValue(r, "bytes") + ")"
	}
	return "null"
}

// writer writes some script, in which what is asked for is often there.
type writer struct {
	r      *rand.Rand
	kinds  map[string][]string // of each name, the kinds of the fields that it was last said to have
	fields string              // the last schema's
	latest []string            // and their kinds
}

// shape is some schema's text, and its fields' kinds.
func (w *writer) shape() (string, []string) {
	r := w.r
	limit := "limit " + some(r, "64", "64", "63", "64", "20", "8", "65536") + "\n"
	if w.fields == "" || r.Intn(2) == 0 {
		w.fields, w.latest = w.someFields()
	}
	return limit + w.fields, w.latest
}

// someFields are some fields' lines, and their kinds.
func (w *writer) someFields() (string, []string) {
	r, text := w.r, ""
	var kinds []string
	for i := range 1 + r.Intn(3) {
		k := some(r, "bool", "int", "int", "bytes", "name", "text", "id", "tuple")
		kinds = append(kinds, k)
		text += "field f" + strconv.Itoa(i) + " " + k + some(r, "", "", " down") + some(r, "", "", " null-first", " null-last")
		switch k {
		case "int":
			text += some(r, "", "", " from -256 to 255")
		case "bytes", "name":
			text += " most " + some(r, "1", "8", "8")
		case "text":
			text += " strength " + some(r, "1", "2 back", "3", "4 shifted")
		case "tuple":
			text += "\n  field i int null-last\n  # a remark\n  field b bytes down most 3\nend"
		}
		text += "\n"
	}
	return text, kinds
}

// tuple is some tuple's text, of the fields that a name has, or of the first ones of them.
func (w *writer) tuple(name string, most int) string {
	var items []string
	for i, k := range w.kinds[name] {
		if i < most {
			items = append(items, anyValue(w.r, some(w.r, k, k, k, k, "null")))
		}
	}
	return "(" + strings.Join(items, " ") + ")"
}

// next are the lines of something that a script may do.
func (w *writer) next() string {
	r := w.r
	name, other := some(r, "p", "p", "q", "r"), some(r, "p", "q", "r")
	quoted := "'" + name + "'"
	scan := quoted + " " + w.tuple(name, r.Intn(3)) + " " + some(r, "yes", "no") + " " + some(r, "0", "0", "1", "2")
	switch r.Intn(26) {
	case 0:
		return "marks\n" + some(r, "", "00E1;0;0061 0301\n0301;230;\n", "\n# a remark\n0301;230;\n", "0041;0;0041\n") + "done\n"
	case 1:
		return "entries\n" + some(r, "", "0061;[.1000.0020.0002]\n0301;[.0000.0024.0002]\n", "0061;[.1002.0020.0002]\n\n0062;[.1001.0020.0002]\n", "0061;[.FB40.0020.0002]\n") + "done\n"
	case 2, 3:
		return "load\n"
	case 4, 5:
		text, kinds := w.shape()
		if w.kinds[name] == nil {
			w.kinds[name] = kinds
		}
		return "define " + quoted + "\n" + text + "done\n"
	case 6:
		text, kinds := w.shape()
		if r.Intn(2) == 0 {
			w.kinds[name] = kinds
		}
		return "evolve " + quoted + "\n" + text + "done\n"
	case 7:
		return "get " + quoted + " " + w.tuple(name, 9) + "\n"
	case 8:
		return "delete " + quoted + " " + w.tuple(name, 9) + "\n"
	case 9:
		return some(r, "import "+quoted+" "+anyKey(r)+" x", "read "+quoted+" "+anyKey(r)) + "\n"
	case 10:
		return "key " + quoted + " " + w.tuple(name, 9) + "\n"
	case 11, 12:
		return "scan " + scan + "\n"
	case 13:
		return "bounds " + scan + strings.Repeat(fmt.Sprintf(" (%s %s %s)", some(r, "yes", "no"), some(r, "yes", "no"), anyValue(r, "int")), 1+r.Intn(2)) + "\n"
	case 14:
		return "starts " + scan + " " + some(r, "x", "x61", "x00") + "\n"
	case 15:
		return "rekey " + quoted + " '" + other + "'" + some(r, " 0", " 0 1", " 1 0", "", " 0 (null)", " (yes) 0", " 0 (1) (x)") + "\n"
	case 16:
		return some(r, "names", "len "+quoted, "schema "+quoted, "fits "+quoted+" '"+other+"'", "\n# names") + "\n"
	case 17:
		return some(r, "save", "save", "back") + "\n"
	}
	return "put " + quoted + " " + w.tuple(name, 9) + " " + some(r, "x", "x01", "x0203") + "\n"
}

func anyKey(r *rand.Rand) string {
	return some(r, "x1100", "x1101", "x1280", "x128101", "x02", "x7d", "x13610001", "x13000001", "x15610001", "x22800001", "x", "x14"+strings.Repeat("00", 16)) + some(r, "", "", "00", "1280")
}

// anyScript is some script, in so many steps.
func anyScript(seed int64, steps int) []string {
	w := &writer{r: rand.New(rand.NewSource(seed)), kinds: map[string][]string{}}
	var l []string
	for _, name := range []string{"p", "q"} {
		text, kinds := w.shape()
		w.kinds[name] = kinds
		l = append(l, "define '"+name+"'\n"+text+"done\n")
	}
	for range steps {
		l = append(l, w.next())
	}
	return l
}

// likePlain: a script tells, or is refused, as the chapter's words say.
func likePlain(t *testing.T, script string) string {
	t.Helper()
	want, e, at := plainRun(script)
	if e != api.OK {
		refuses(t, script, e, at)
	} else {
		tells(t, script, want)
	}
	return want
}

// TestLikeTheWords is P22.1: scripts of all sorts, held against the chapter's words.
func TestLikeTheWords(t *testing.T) {
	answers := map[string]int{}
	for seed := range int64(300) {
		told := likePlain(t, strings.Join(anyScript(2200+seed, 120), ""))
		for _, line := range strings.Split(told, "\n") {
			words := strings.Split(line, " ")
			if words[0] == "error" {
				words[0] += " " + words[1]
			}
			answers[words[0]]++
		}
	}
	for _, c := range []struct {
		word  string
		least int
	}{
		{"", 1000}, {"ok", 1000}, {"rows", 500}, {"none", 50}, {"yes", 20}, {"no", 20}, {"names", 20}, {"fits", 20}, {"short", 5}, {"witness", 5}, {"kept", 100},
		{"error 42", 5}, {"error 62", 5}, {"error 120", 20}, {"error 121", 20}, {"error 122", 20}, {"error 123", 5}, {"error 124", 20}, {"error 125", 5},
		{"error 140", 20}, {"error 141", 20}, {"error 150", 5}, {"error 151", 5}, {"error 160", 20}, {"error 161", 20}, {"error 200", 20}, {"error 201", 20}, {"error 202", 20},
	} {
		if answers[c.word] < c.least {
			t.Errorf("%s: %d times", c.word, answers[c.word])
		}
	}
	for _, talk := range append(examples(), commandTalks()...) {
		likePlain(t, scriptOf(talk))
	}
}

// TestTurnedLines is P22.1: scripts one byte away from right ones.
func TestTurnedLines(t *testing.T) {
	r := rand.New(rand.NewSource(2201))
	refused := 0
	for _, talk := range append(examples(), commandTalks()...) {
		script := scriptOf(talk)
		for range 150 {
			at := r.Intn(len(script))
			turned := script[:at] + some(r, "", " ", "\n", "#", "(", ")", "'", "x", "0", "-", "done\n", "\xff", script[at:at+1]+script[at:at+1]) + script[at+1:]
			if likePlain(t, turned) == "" {
				refused++
			}
		}
	}
	if refused < 500 {
		t.Errorf("%d are refused", refused)
	}
}

// TestBeginnings is P22.2: what is told of the first lines is how what is told of all of them begins; of lines that end within a block nothing is told.
func TestBeginnings(t *testing.T) {
	var scripts []string
	for _, talk := range append(examples(), commandTalks()...) {
		scripts = append(scripts, scriptOf(talk))
	}
	for seed := range int64(30) {
		scripts = append(scripts, strings.Join(anyScript(2300+seed, 60), ""))
	}
	for _, script := range scripts {
		whole := runs(t, script)
		lines := strings.SplitAfter(script, "\n")
		block, before := false, ""
		for i, line := range lines[:len(lines)-1] {
			begin := strings.Join(lines[:i+1], "")
			word, _, _ := strings.Cut(strings.TrimSuffix(line, "\n"), " ")
			block = blockWords[word] && !block || block && line != "done\n"
			if block {
				refuses(t, begin, api.ErrDeskLine, i+2)
				continue
			}
			told := runs(t, begin)
			if !strings.HasPrefix(whole, told) || !strings.HasPrefix(told, before) {
				t.Fatalf("%s: %s", brief(begin), firstUnlike(told, whole))
			}
			before = told
		}
		if before != whole {
			t.Errorf("%s: %s", brief(script), firstUnlike(before, whole))
		}
	}
}

// TestBehind is P22.2: whatever stands behind lines, what they tell is the same.
func TestBehind(t *testing.T) {
	for _, talk := range append(examples(), commandTalks()...) {
		script, told := scriptOf(talk), toldOf(talk)
		for _, behind := range append([]string{"back\n", "save\nback\nnames\n", "#\n\n", "marks\n0301;230;\ndone\nload\n", "define 'p'\ndone\n"}, examples()...) {
			if strings.Contains(behind, "> ") {
				behind = scriptOf(behind)
			}
			if whole := runs(t, script+behind); !strings.HasPrefix(whole, told) {
				t.Fatalf("%s: %s", brief(script), firstUnlike(whole, told))
			}
		}
	}
}

// TestAlone is R2: what is told hangs on the text alone: not on scripts ahead of it, nor on those that run beside it.
func TestAlone(t *testing.T) {
	var group sync.WaitGroup
	for range 4 {
		for _, talk := range append(examples(), commandTalks()...) {
			group.Go(func() {
				for range 3 {
					if told, err := desk.Run(scriptOf(talk)); told != toldOf(talk) || err != nil {
						t.Errorf("%s: %s, %s", brief(scriptOf(talk)), brief(told), fault(err))
					}
				}
			})
		}
	}
	group.Wait()
}
