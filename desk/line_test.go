package desk_test

import (
	"strings"
	"testing"

	"dovetail/api"
	"dovetail/desk"
)

// blockWords are the words behind whose lines a block stands.
var blockWords = map[string]bool{"marks": true, "entries": true, "define": true, "evolve": true}

// may: such a line may be; bad: it may not. Both stand behind a remark, where the line is the second one.
func may(t *testing.T, line string) {
	t.Helper()
	script := "#\n" + line + "\n"
	if word, _, _ := strings.Cut(line, " "); blockWords[word] {
		script += "done\n"
	}
	if told := runs(t, script); !strings.HasPrefix(told, "> "+line+"\n") || strings.Count(told, "> ") != 1 {
		t.Errorf("%s: %s", brief(line), brief(told))
	}
}

func bad(t *testing.T, line string) {
	t.Helper()
	refuses(t, "#\n"+line+"\n", api.ErrDeskLine, 2)
	refuses(t, "#\n"+line+"\ndone\n", api.ErrDeskLine, 2)
}

// TestNothing is P22.1: of no text nothing is told, nor of lines that say nothing.
func TestNothing(t *testing.T) {
	for _, text := range []string{"", "\n", "#\n", "\n\n\n", "# names\n#names\n\n#\xff\x00\n", "#(\n"} {
		tells(t, text, "")
	}
	tells(t, "\n# one\nnames\n\n#\n\nnames\n#\n", "> names\nnames 0\n> names\nnames 0\n")
	for _, line := range []string{" ", " #", " # names", "\t", "\r", "(", "\x00", "\xff"} {
		bad(t, line)
	}
}

// TestLastLine is P22.1: a last line without a line feed may not be, whatever it says, and wherever it stands.
func TestLastLine(t *testing.T) {
	for _, c := range []struct {
		text string
		at   int
	}{
		{"names", 1},
		{"#", 1},
		{" ", 1},
		{"names\n\n#", 3},
		{"names\nnames", 2},
		{"define 'p'", 1},
		{"define 'p'\nlimit 9", 2},
		{"define 'p'\nlimit 9\ndone", 3},
		{"define 'p'\ndone\nnames\nmarks\n#", 5},
		{"sing\nnames", 1},
		{"names\nsing", 2},
	} {
		refuses(t, c.text, api.ErrDeskLine, c.at)
	}
}

// TestWords is P22.1: each word there is, and words that are none.
func TestWords(t *testing.T) {
	for _, line := range goodLines() {
		may(t, line)
		word, behind, more := strings.Cut(line, " ")
		for _, other := range []string{strings.ToUpper(word), strings.ToUpper(word[:1]) + word[1:], word + "s", word[:len(word)-1], " " + word, word + "\t", word + "\r", "x" + word, word + ":", "(" + word + ")", word + "\x00"} {
			if more {
				bad(t, other+" "+behind)
			} else {
				bad(t, other)
			}
		}
		if more {
			bad(t, word)
			bad(t, word+"  "+behind)
			bad(t, word+"\t"+behind)
			bad(t, word+behind)
		}
		bad(t, word+" ")
		bad(t, word+"  ")
		bad(t, line+" ")
		bad(t, line+"\r")
		bad(t, line+" # a remark")
		bad(t, " "+line)
	}
	for _, word := range []string{"done", "end", "limit 9", "field a bool", "sing", "do", "Tables", "clone", "pairs", "texts", "print", "start", "insert", "null", "yes", "'p'", "()", "1", "(names)", "\"names\"", "import-row", "takeMarks"} {
		bad(t, word)
	}
}

// goodLines are lines that may be: of each word one with as few arguments as there may be.
func goodLines() []string {
	return []string{
		"marks", "entries", "load", "define 'p'", "evolve 'p'", "put 'p' () x", "get 'p' ()", "delete 'p' ()", "import 'p' x x",
		"key 'p' ()", "read 'p' x", "scan 'p' () no 0", "bounds 'p' () no 0 (no no null)", "starts 'p' () no 0 x", "rekey 'p' 'q'",
		"names", "schema 'p'", "len 'p'", "fits 'p' 'q'", "save", "back",
	}
}

// TestArguments is P22.1: of each argument each other kind; one that is lacking, one more.
func TestArguments(t *testing.T) {
	all := []string{"null", "yes", "7", "x00", "#00112233445566778899aabbccddeeff", "'n'", "\"t\"", "(null)", "(yes no 1)"}
	kinds := map[byte]string{'\'': "'", 'x': "x", '(': "(", 'n': "yn", 'y': "yn", '0': "7"}
	for _, line := range goodLines() {
		words := splitLine(line)
		for i := 1; i < len(words); i++ {
			bad(t, strings.Join(append(append([]string{}, words[:i]...), words[i+1:]...), " "))
			for _, other := range all {
				changed := append([]string{}, words...)
				changed[i] = other
				same := strings.IndexByte(kinds[words[i][0]], other[0]) >= 0 && other != "null"
				if words[0] == "bounds" && i == 5 {
					same = other == "(yes no 1)"
				}
				if same {
					may(t, strings.Join(changed, " "))
				} else {
					bad(t, strings.Join(changed, " "))
				}
			}
		}
		for _, other := range all {
			switch more := line + " " + other; {
			case words[0] == "rekey" && (other == "7" || other == "(null)"), words[0] == "bounds" && other == "(yes no 1)":
				may(t, more)
				may(t, more+" "+other)
			default:
				bad(t, more)
			}
		}
	}
}

// splitLine are a line's word and its arguments.
func splitLine(line string) []string {
	var words []string
	deep := 0
	for _, word := range strings.Split(line, " ") {
		if deep == 0 {
			words = append(words, word)
		} else {
			words[len(words)-1] += " " + word
		}
		deep += strings.Count(word, "(") - strings.Count(word, ")")
	}
	return words
}

// TestBounds is P22.1: a bound is a Tuple of a Bool, a Bool and anything; there is one or more of them.
func TestBounds(t *testing.T) {
	for _, b := range []string{"(yes yes null)", "(no yes (1 2))", "(yes no ())", "(no no \"t\")", "(no no #00112233445566778899aabbccddeeff)", "(no no -99999999999999999999)", "(no no yes)"} {
		may(t, "bounds 'p' () no 0 "+b)
		may(t, "bounds 'p' () yes 1 "+b+" "+b+" (no no 1)")
	}
	for _, b := range []string{"()", "(yes)", "(yes no)", "(yes no 1 2)", "(null no 1)", "(yes null 1)", "(yes 0 1)", "(x no 1)", "((yes no 1))", "yes no 1", "(1 yes no)", "('yes' no 1)"} {
		bad(t, "bounds 'p' () no 0 "+b)
		bad(t, "bounds 'p' () no 0 (yes no 1) "+b)
		bad(t, "bounds 'p' () no 0 "+b+" (yes no 1)")
	}
	bad(t, "bounds 'p' () no 0")
	bad(t, "bounds 'p' () no 0 x")
	bad(t, "scan 'p' () no 0 (yes no 1)")
	bad(t, "starts 'p' () no 0 x (yes no 1)")
	bad(t, "starts 'p' () no 0 (yes no 1)")
	bad(t, "starts 'p' () no 0 x x")
}

// TestSources is P22.1: a source is an Int, or a Tuple of one item, any number of them.
func TestSources(t *testing.T) {
	for _, s := range []string{"0", "1", "2147483647", "(0)", "(-1)", "(2147483648)", "(null)", "(yes)", "(x)", "((1 2))", "(())", "('q')"} {
		may(t, "rekey 'p' 'q' "+s)
		may(t, "rekey 'p' 'q' 5 "+s+" (7)")
	}
	for _, s := range []string{"-1", "2147483648", "()", "(1 2)", "(null null)", "null", "yes", "x", "'q'", "\"t\"", "#00112233445566778899aabbccddeeff"} {
		bad(t, "rekey 'p' 'q' "+s)
		bad(t, "rekey 'p' 'q' 5 "+s+" (7)")
	}
	bad(t, "rekey 'p' 1 'q'")
	bad(t, "rekey 'p' (1)")
	bad(t, "rekey 'p'")
}

// TestInts is P22.1: Ints that are arguments, and those within a Tuple.
func TestInts(t *testing.T) {
	great := strings.Repeat("9", 600)
	for _, ahead := range []string{"scan 'p' () no N", "bounds 'p' () no N (no no 1)", "starts 'p' () no N x", "rekey 'p' 'q' N", "rekey 'p' 'q' (1) N 0"} {
		for _, n := range []string{"0", "1", "2147483646", "2147483647"} {
			may(t, strings.Replace(ahead, "N", n, 1))
		}
		for _, n := range []string{"-1", "2147483648", "-2147483648", "4294967296", "4294967295", "9223372036854775807", "9223372036854775808", "18446744073709551615", "18446744073709551616", "18446744073709551617", "-18446744073709551615", great, "-" + great, "-0", "00", "01", "+1", "0x1", "1.0"} {
			bad(t, strings.Replace(ahead, "N", n, 1))
		}
	}
	for _, n := range []string{"0", "2147483647", "2147483648", "-1", "-2147483649", great, "-" + great} {
		for _, line := range []string{"put 'p' (N) x", "get 'p' (N)", "delete 'p' ((N))", "key 'p' (1 N)", "scan 'p' (N) no 0", "bounds 'p' (N) no 0 (yes no N)", "starts 'p' (N) no 0 x", "rekey 'p' 'q' (N)", "rekey 'p' 'q' ((N N))"} {
			may(t, strings.ReplaceAll(line, "N", n))
		}
	}
	bad(t, "put 'p' (-0) x")
	bad(t, "put 'p' ("+strings.Repeat("9", 615)+") x") // of more than 255 bytes
}

// TestValues is P22.1: what stands behind the blank, between brackets, is a text that lit.Parse takes.
func TestValues(t *testing.T) {
	for _, line := range []string{
		"put 'p'  () x", "put 'p' ()  x", "put 'p' () x ", "put 'p' (1  2) x", "put 'p' ( 1) x", "put 'p' (1 ) x", "put 'p' (1 x", "put 'p' 1) x", "put 'p' () x)", "put ('p' () x",
		"put ('p' () x)", "len 'p')", "len ('p'", "len 'p') (", "len 'p')(", "names )(", "names ()", "len p", "len 'p", "len p'", "len \"p\"", "len `p`", "len 'p'x", "len 'p\\'", "len 'p' ",
		"len '\\x70'", "len '\\x0A'", "len '\n'", "read 'p' x0", "read 'p' x0A", "read 'p' xg", "read 'p' X00", "read 'p' #00", "read 'p' 00", "scan 'p' () NO 0", "scan 'p' () yess 0", "scan 'p' () true 0",
		"put 'p' (nul) x", "put 'p' (\xc3\xa1) x", "len 'p\x00'", "len 'p\x7f'", "len '\xc3\xa1'", "len 'p',", "fits 'p','q'", "fits 'p'\t'q'",
	} {
		if !strings.Contains(line, "\n") {
			bad(t, line)
			continue
		}
		refuses(t, line+"\n", api.ErrDeskLine, 1)
	}
	for _, line := range []string{"len ''", "len 'P'", "len '\\xff'", "len '\\x0a'", "len 'it\\'s \"\\\\'", "len '(p)'", "len '# p'", "put 'p' (null yes no -1 x00 #00112233445566778899aabbccddeeff 'n' \"t\" ()) x00ff", "len '" + strings.Repeat("a", 60000) + "'"} {
		may(t, line)
	}
	deep := func(n int) string { return strings.Repeat("(", n) + strings.Repeat(")", n) }
	may(t, "put 'p' "+deep(15)+" x") // the brackets about the arguments are a tuple too
	bad(t, "put 'p' "+deep(16)+" x")
	may(t, "bounds 'p' () no 0 (no no "+deep(14)+")")
	bad(t, "bounds 'p' () no 0 (no no "+deep(15)+")")
	may(t, "rekey 'p' 'q'"+strings.Repeat(" 0", 1022))
	bad(t, "rekey 'p' 'q'"+strings.Repeat(" 0", 1023))
	may(t, "put 'p' (0"+strings.Repeat(" 0", 1023)+") x")
	bad(t, "put 'p' (0"+strings.Repeat(" 0", 1024)+") x")
}

// TestBlocks is P22.1: a block goes up to the first line that is just `done`.
func TestBlocks(t *testing.T) {
	for _, ahead := range []string{"marks", "entries", "define 'p'", "evolve 'p'"} {
		refuses(t, ahead+"\n", api.ErrDeskLine, 2)
		refuses(t, ahead+"\nlimit 9\n", api.ErrDeskLine, 3)
		refuses(t, "\nnames\n#\n"+ahead+"\n\n#\nnames\n", api.ErrDeskLine, 8)
		for _, line := range []string{" done", "done ", "Done", "DONE", "done\r", "#done", "done x", "done #", "end", "sing", "names", "names ", "\xff", ahead} {
			refuses(t, ahead+"\n"+line+"\n", api.ErrDeskLine, 3)
			if told := runs(t, ahead+"\n"+line+"\ndone\nlen 'z'\n"); !strings.HasSuffix(told, "\n> len 'z'\nerror 200 at 0\n") || strings.Count(told, "\n") != 4 {
				t.Errorf("%s, %s: %s", ahead, line, brief(told))
			}
		}
		refuses(t, ahead+"\ndone\ndone\n", api.ErrDeskLine, 3)
		refuses(t, ahead+"\ndone\n"+ahead+"\n", api.ErrDeskLine, 4)
		refuses(t, ahead+"\nnames\ndone\nlimit 9\ndone\n", api.ErrDeskLine, 4)
		refuses(t, ahead+" x\nlimit 9\n", api.ErrDeskLine, 1) // the line itself, ahead of its block
	}
	for _, line := range []string{"load", "names", "save", "back", "len 'p'", "put 'p' () x"} { // without a block
		refuses(t, line+"\ndone\n", api.ErrDeskLine, 2)
		refuses(t, line+"\nlimit 9\ndone\n", api.ErrDeskLine, 2)
	}
}

// TestFirstBadLine is P22.1: the first line that may not be is told, though more of them may not; and nothing of those ahead of it.
func TestFirstBadLine(t *testing.T) {
	good := scriptOf(pairs)
	for _, worse := range []string{"sing\n", "names\nlen p\nsing\n", "names", "define 'q'\n", "put 'p' () x ", strings.Repeat("\n", 1000)} {
		refuses(t, good+"len p\n"+worse, api.ErrDeskLine, 6)
		refuses(t, "names x\n"+good+worse, api.ErrDeskLine, 1)
	}
	refuses(t, good+"names\nsing\n", api.ErrDeskLine, 7)
	refuses(t, good+"#\n\nsing\n", api.ErrDeskLine, 8)
	refuses(t, good+good+"sing\n", api.ErrDeskLine, 11) // a line that is refused may be
}

// TestFaultsAreNew is R2: a Fault is another one each time, and tells just its number.
func TestFaultsAreNew(t *testing.T) {
	for _, script := range []string{"sing\n", "names", "marks\n", strings.Repeat("\n", 1001), strings.Repeat("\n", 65537), longTold(1)} {
		_, one := desk.Run(script)
		_, two := desk.Run(script)
		if one == nil || one == two || fault(one) != fault(two) {
			t.Errorf("%s: %s, %s", brief(script), fault(one), fault(two))
		}
	}
}
