package desk_test

import (
	"fmt"
	"regexp"
	"strconv"
	"strings"

	"dovetail/api"
	"dovetail/compat"
	"dovetail/image"
	"dovetail/lit"
	"dovetail/nat"
	"dovetail/pack"
	"dovetail/schema"
	"dovetail/space"
	"dovetail/value"
	"dovetail/weigh"
)

// plainShapes are the chapter's table: of each word which kinds its arguments have, as kindsOf writes them.
var plainShapes = map[string]string{
	"marks": "", "entries": "", "load": "",
	"define": " N", "evolve": " N",
	"put": " N T\\w* B", "get": " N T\\w*", "delete": " N T\\w*",
	"import": " N B B",
	"key":    " N T\\w*", "read": " N B",
	"scan": " N T\\w* Y C", "bounds": " N T\\w* Y C( TYY\\w)+", "starts": " N T\\w* Y C B",
	"rekey": " N N( C| T\\w)*",
	"names": "", "schema": " N", "len": " N", "fits": " N N", "save": "", "back": "",
}

// kindsOf writes values as letters: an Int that may be an argument C, any other one I; behind a Tuple stand the letters of its items, with no regard to what stands within these.
func kindsOf(items []api.Part, ahead string, deep bool) string {
	out := ""
	for _, p := range items {
		letter := string("ZYIBDNXT"[p.Kind])
		if n, is := nat.Small(p.Num); p.Kind == api.Int && is && n >= 0 && n <= 2147483647 {
			letter = "C"
		}
		out += ahead + letter
		if deep {
			out += kindsOf(p.Items, "", false)
		}
	}
	return out
}

// plainLine is one line that does something.
type plainLine struct {
	at    int
	line  string
	word  string
	args  []api.Part
	block string
}

// plainRead are a text's lines that do something, or the number of the first one that may not be.
func plainRead(text string) ([]plainLine, int) {
	lines := strings.Split(text, "\n") // behind the last line feed stands one more, which must say nothing
	var out []plainLine
	var open *plainLine
	for i, line := range lines {
		last := i == len(lines)-1
		switch {
		case last && line == "" && open == nil:
			return out, 0
		case last, i >= 1000:
			return nil, i + 1
		case open != nil && line == "done":
			out = append(out, *open)
			open = nil
		case open != nil:
			open.block += line + "\n"
		case line == "" || line[0] == '#':
		default:
			x, is := plainLineOf(line)
			if !is {
				return nil, i + 1
			}
			x.at = i + 1
			switch x.word {
			case "marks", "entries", "define", "evolve":
				open = &x
			default:
				out = append(out, x)
			}
		}
	}
	panic("no line is the last one")
}

func plainLineOf(line string) (plainLine, bool) {
	m := regexp.MustCompile(`^([a-z]+)(?: (.+))?$`).FindStringSubmatch(line)
	if m == nil {
		return plainLine{}, false
	}
	shape, is := plainShapes[m[1]]
	v, e, _ := lit.Parse("(" + m[2] + ")")
	if !is || e != api.OK {
		return plainLine{}, false
	}
	args := v.Part().Items
	return plainLine{line: line, word: m[1], args: args}, regexp.MustCompile("^" + shape + "$").MatchString(kindsOf(args, " ", true))
}

// plainDesk is a desk by the chapter's words.
type plainDesk struct {
	space          *space.Space
	marks, entries string
	image          *string
}

// plainRun is P22.1 by its words: what is told; or the error's number, and its place.
func plainRun(text string) (string, api.Errno, int) {
	if len(text) > 65536 {
		return "", api.ErrLong, 0
	}
	lines, badAt := plainRead(text)
	if badAt > 0 {
		return "", api.ErrDeskLine, badAt
	}
	d := &plainDesk{space: space.New()}
	told := ""
	for _, x := range lines {
		told += "> " + x.line + "\n" + d.safely(x)
		if len(told) > 1048576 {
			return "", api.ErrLong, x.at
		}
	}
	return told, api.OK, 0
}

// safely is what a line tells, or in the place of it all what it is refused with.
func (d *plainDesk) safely(x plainLine) (told string) {
	defer func() {
		switch why := recover().(type) {
		case nil:
		case api.Errno:
			told = fmt.Sprintf("error %d at 0\n", int(why))
		case *api.Fault:
			told = fmt.Sprintf("error %d at %d", int(why.Code), why.At)
			if len(why.Path) > 0 {
				told += " path " + strings.Trim(fmt.Sprint(why.Path), "[]")
			}
			told += "\n"
		default:
			panic(why)
		}
	}()
	return d.told(x)
}

// check gives up with an error.
func check(err error) {
	if err != nil {
		panic(err)
	}
}

func print1(v value.Value) string {
	s, e := lit.Print(v)
	if e != api.OK {
		panic(e)
	}
	return s
}

func printPart(p api.Part) string {
	v, _ := value.Make(p)
	return print1(v)
}

func printBytes(s string) string { return printPart(api.Part{Kind: api.Bytes, Raw: s}) }

func (d *plainDesk) tables() *weigh.Tables {
	x, e, _, _ := weigh.Load(d.space.Texts())
	if e != api.OK {
		panic("tables")
	}
	return x
}

func (d *plainDesk) schema(p api.Part) api.Schema {
	s, err := d.space.Schema(p.Raw)
	check(err)
	return s
}

// told does a line.
func (d *plainDesk) told(x plainLine) string {
	a, name := x.args, ""
	if len(a) > 0 {
		name = a[0].Raw
	}
	switch x.word {
	case "marks":
		d.marks = x.block[:max(len(x.block)-1, 0)]
	case "entries":
		d.entries = x.block[:max(len(x.block)-1, 0)]
	case "load":
		check(d.space.Tables(d.marks, d.entries))
	case "define":
		check(d.space.Define(name, x.block))
	case "evolve":
		check(d.space.Evolve(name, x.block))
	case "put":
		check(d.space.Put(name, a[1], a[2].Raw))
	case "get":
		kept, is, err := d.space.Get(name, a[1])
		check(err)
		if !is {
			return "none\n"
		}
		return printBytes(kept) + "\n"
	case "delete":
		is, err := d.space.Delete(name, a[1])
		check(err)
		return map[bool]string{true: "yes\n", false: "no\n"}[is]
	case "import":
		check(d.space.Import(name, a[1].Raw, a[2].Raw))
	case "key":
		v, _ := value.Make(a[1])
		key, err := pack.Encode(d.tables(), d.schema(a[0]), v)
		check(err)
		return printBytes(key) + "\n"
	case "read":
		v, err := pack.Decode(d.tables(), d.schema(a[0]), a[1].Raw)
		check(err)
		return print1(v) + "\n"
	case "scan", "bounds", "starts":
		return d.scan(x)
	default:
		return d.others(x)
	}
	return "ok\n"
}

func (d *plainDesk) scan(x plainLine) string {
	limit, _ := nat.Small(x.args[3].Num)
	q := api.Query{Prefix: x.args[1], Back: x.args[2].Yes, Limit: limit}
	switch x.word {
	case "starts":
		q.Starts, q.Start = true, x.args[4].Raw
	case "bounds":
		for _, b := range x.args[4:] {
			q.Bounds = append(q.Bounds, api.Bound{Above: b.Items[0].Yes, Equal: b.Items[1].Yes, Part: b.Items[2]})
		}
	}
	rows, err := d.space.Scan(x.args[0].Raw, q)
	check(err)
	told := ""
	for _, r := range rows {
		told += "  " + printPart(r.Part) + " " + printBytes(r.Value) + "\n"
	}
	return told + "rows " + strconv.Itoa(len(rows)) + "\n"
}

func (d *plainDesk) others(x plainLine) string {
	a := x.args
	switch x.word {
	case "rekey":
		var l []api.Source
		for _, p := range a[2:] {
			n, _ := nat.Small(p.Num)
			if p.Kind == api.Tuple {
				l = append(l, api.Source{Field: -1, Part: p.Items[0]})
			} else {
				l = append(l, api.Source{Field: n})
			}
		}
		check(d.space.Rekey(a[0].Raw, a[1].Raw, l))
		return "ok\n"
	case "names":
		told := ""
		for _, name := range d.space.Names() {
			told += "  " + name + "\n"
		}
		return told + fmt.Sprintf("names %d\n", len(d.space.Names()))
	case "schema":
		text, err := schema.Print(d.schema(a[0]))
		check(err)
		return regexp.MustCompile(`(?m)^(.+)$`).ReplaceAllString(text, "  $1")
	case "len":
		n, err := d.space.Len(a[0].Raw)
		check(err)
		return fmt.Sprintf("rows %d\n", n)
	case "fits":
		v, err := compat.Check(d.schema(a[0]), d.schema(a[1]))
		check(err)
		return map[[2]bool]string{{true, false}: "fits\n", {false, true}: "short\n", {false, false}: "witness\n"}[[2]bool{v.Fits, v.Short}]
	case "save":
		b, _ := image.Save(d.space)
		d.image = &b
		return fmt.Sprintf("kept %d\n", len(b))
	}
	if d.image == nil {
		return "none\n"
	}
	d.space, _ = image.Load(*d.image)
	return "ok\n"
}
