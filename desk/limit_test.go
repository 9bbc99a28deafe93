package desk_test

import (
	"strconv"
	"strings"
	"testing"

	"dovetail/api"
	"dovetail/desk"
)

// TestLongText is P22.1: a text of 65536 bytes, and of one more, ahead of all else.
func TestLongText(t *testing.T) {
	tells(t, strings.Repeat("#", 65535)+"\n", "")
	tells(t, "names\n#"+strings.Repeat("\xff", 65528)+"\n", "> names\nnames 0\n")
	name := strings.Repeat("a", 65536-len("len ''\n"))
	tells(t, "len '"+name+"'\n", "> len '"+name+"'\nerror 200 at 0\n")
	refuses(t, "len '"+name+"a'\n", api.ErrLong, 0)
	refuses(t, strings.Repeat("#", 65536)+"\n", api.ErrLong, 0)
	refuses(t, strings.Repeat("#", 65536), api.ErrDeskLine, 1)
	refuses(t, strings.Repeat("#", 65537), api.ErrLong, 0)
	refuses(t, strings.Repeat("\n", 65537), api.ErrLong, 0)
	refuses(t, strings.Repeat("\n", 65536), api.ErrDeskLine, 1001)
	refuses(t, "sing\n"+strings.Repeat("names\n", 20000), api.ErrLong, 0)
}

// TestManyLines is P22.1: 1000 lines and a 1001st, those that say nothing, and those of blocks.
func TestManyLines(t *testing.T) {
	const told = "> names\nnames 0\n"
	tells(t, strings.Repeat("names\n", 1000), strings.Repeat(told, 1000))
	tells(t, strings.Repeat("\n", 999)+"names\n", told)
	tells(t, strings.Repeat("#\n", 1000), "")
	refuses(t, strings.Repeat("names\n", 1001), api.ErrDeskLine, 1001)
	refuses(t, strings.Repeat("names\n", 1000)+"\n", api.ErrDeskLine, 1001)
	refuses(t, strings.Repeat("names\n", 1000)+"#", api.ErrDeskLine, 1001)
	refuses(t, strings.Repeat("names\n", 999)+"names", api.ErrDeskLine, 1000)
	refuses(t, strings.Repeat("\n", 1000)+"names\n", api.ErrDeskLine, 1001)
	refuses(t, strings.Repeat("\n", 5000), api.ErrDeskLine, 1001)
	refuses(t, strings.Repeat("\n", 999)+"sing\n\n", api.ErrDeskLine, 1000)

	block := func(lines int) string { return "marks\n" + strings.Repeat("\n", lines) + "done\n" }
	tells(t, block(998), "> marks\nok\n")
	tells(t, block(497)+block(497)+"names\nnames\n", "> marks\nok\n> marks\nok\n"+told+told)
	refuses(t, block(999), api.ErrDeskLine, 1001)
	refuses(t, block(2000), api.ErrDeskLine, 1001)
	refuses(t, block(998)+"names\n", api.ErrDeskLine, 1001)
	refuses(t, "marks\n"+strings.Repeat("\n", 998), api.ErrDeskLine, 1000)
	refuses(t, "marks\n"+strings.Repeat("\n", 999), api.ErrDeskLine, 1001) // without `done`
	refuses(t, "marks\n"+strings.Repeat("\n", 1000), api.ErrDeskLine, 1001)
	refuses(t, strings.Repeat("\n", 999)+"marks\n", api.ErrDeskLine, 1001)
}

// longLine is the last line of a longTold, with so many letters.
func longLine(letters int) string { return "len '" + strings.Repeat("a", letters) + "'\n" }

// longBegin tells a good deal, though not all that may be told, by few bytes.
func longBegin() string {
	digits := strings.Repeat("0", 20000)
	return "# a row that is told many times over\ndefine 'p'\nlimit 9\nfield a bool\ndone\nput 'p' (yes) x" + digits + "\n" + strings.Repeat("scan 'p' () no 0\n", 51)
}

// longTold is a script that tells 1048576 bytes and so many more.
func longTold(more int) string {
	const around = "> len ''\nerror 200 at 0\n"
	told, _ := desk.Run(longBegin())
	return longBegin() + longLine(api.MaxTold+more-len(told)-len(around))
}

// TestLongTold is P22.1: what is told of 1048576 bytes, and of one more: at the line that does it.
func TestLongTold(t *testing.T) {
	if told := runs(t, longTold(0)); len(told) != 1048576 || !strings.HasSuffix(told, "aa'\nerror 200 at 0\n") {
		t.Errorf("%d bytes: %s", len(told), brief(told))
	}
	const at = 6 + 51 + 1
	refuses(t, longTold(1), api.ErrLong, at)
	runs(t, longTold(0)+"# says nothing\n\n")
	refuses(t, longTold(1)+"# says nothing\n\n", api.ErrLong, at)
	refuses(t, longTold(0)+"#\nnames\n", api.ErrLong, at+2)
	refuses(t, longTold(0)+"\n\ndefine 'q'\nlimit 9\nfield a bool\ndone\nnames\n", api.ErrLong, at+3) // where the block's line stands, not its end
	refuses(t, longTold(1)+"names\nnames\n", api.ErrLong, at)
	refuses(t, longTold(-15)+"names\n", api.ErrLong, at+1) // its own line has room, what it tells has not
	runs(t, longTold(-len("> load\nok\n"))+"load\n")
	refuses(t, longTold(1-len("> load\nok\n"))+"load\n", api.ErrLong, at+1)

	// a line that may not be is told ahead of it, wherever it stands
	refuses(t, longTold(1)+"sing\n", api.ErrDeskLine, at+1)
	refuses(t, longTold(1)+"names\nnames", api.ErrDeskLine, at+2)
	refuses(t, longTold(1)+"marks\n", api.ErrDeskLine, at+2)
	refuses(t, longTold(1)+strings.Repeat("\n", 1000), api.ErrDeskLine, 1001)
}

// TestLongScan is P22.1: one line alone that tells too much; what it is refused with is told in the place of it all, if a row further behind is refused.
func TestLongScan(t *testing.T) {
	wide := "limit 65536\nfield a int\nfield n name most 65536\ndone\n"
	script := "define 'p'\nlimit 9\nfield a int\ndone\ndefine 'q'\n" + wide
	for i := range 40 {
		script += "put 'p' (" + strconv.Itoa(i) + ") x\n"
	}
	script += "rekey 'p' 'q' 0 ('" + strings.Repeat("a", 27000) + "')\n"
	scan := "scan 'q' () no 0\n"
	refuses(t, script+scan, api.ErrLong, 51)
	far := "import 'q' x12816315" + strings.Repeat("01", 16500) + "0001 x\n"
	told := runs(t, script+far+scan)
	if !strings.HasSuffix(told, "\n> scan 'q' () no 0\nerror 2 at 0\n") || len(told) > 70000 {
		t.Errorf("%d bytes: %s", len(told), brief(told))
	}
	refuses(t, script+far+"scan 'q' () no 40\n", api.ErrLong, 52)
	refuses(t, script+far+scan+"bounds 'q' () yes 0 (no no 99)\n", api.ErrLong, 53)
}

// TestUnprinted is P22.1: a value whose text lit.Print refuses is told as an error, without a path, at 0, wherever a line tells one.
func TestUnprinted(t *testing.T) {
	begin := "define 'n'\nlimit 65536\nfield n name most 65536\ndone\n"
	const beginTold = "> define 'n'\nok\n"
	ask := func(line, want string) {
		t.Helper()
		tells(t, begin+line+"\n", beginTold+"> "+line+"\n"+want+"\n")
	}
	raw := func(n int) string { return "x15" + strings.Repeat("01", n) + "0001" }
	fits, spelt := 16383, strings.Repeat("\\x01", 16383) // with the quotes and the brackets 65536 bytes
	ask("read 'n' "+raw(fits), "('"+spelt+"')")
	ask("read 'n' "+raw(fits+1), "error 2 at 0")
	letters := func(n int) string { return "key 'n' ('" + strings.Repeat("a", n) + "')" }
	ask(letters(32764), "x15"+strings.Repeat("61", 32764)+"0001")
	ask(letters(32765), "error 2 at 0")
	ask(letters(60000), "error 2 at 0")

	script := begin + "import 'n' " + raw(fits+1) + " x\nput 'n' ('a') x\n"
	scriptTold := beginTold + "> import 'n' " + raw(fits+1) + " x\nok\n> put 'n' ('a') x\nok\n"
	for _, c := range [][2]string{
		{"scan 'n' () no 0", "error 2 at 0"},
		{"scan 'n' () no 1", "error 2 at 0"},
		{"scan 'n' () yes 0", "error 2 at 0"},
		{"scan 'n' () yes 1", "  ('a') x\nrows 1"},
		{"bounds 'n' () no 0 (yes no '')", "error 2 at 0"},
		{"bounds 'n' () no 0 (yes yes 'a')", "  ('a') x\nrows 1"},
		{"starts 'n' () no 0 x01", "error 2 at 0"},
		{"starts 'n' () no 0 x61", "  ('a') x\nrows 1"},
		{"len 'n'", "rows 2"},
	} {
		tells(t, script+c[0]+"\n", scriptTold+"> "+c[0]+"\n"+c[1]+"\n")
	}
	kept := "x" + strings.Repeat("ff", 32600) // what is kept is told as it was given
	ask("put 'n' ('') "+kept, "ok")
	tells(t, begin+"put 'n' ('') "+kept+"\nget 'n' ('')\nscan 'n' () no 0\n", beginTold+"> put 'n' ('') "+kept+"\nok\n> get 'n' ('')\n"+kept+"\n> scan 'n' () no 0\n  ('') "+kept+"\nrows 1\n")
}
