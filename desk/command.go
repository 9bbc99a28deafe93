package desk

import (
	"math"

	"dovetail/api"
	"dovetail/nat"
)

// want tells whether an argument is such a one.
type want func(api.Part) bool

// command is what a word asks for.
type command struct {
	takes []want // its arguments
	more  want   // of such ones any number may stand behind these; nil: of none
	block bool   // whether one stands behind the line
	do    func(*desk, step) ([]string, error)
}

// commands are all of them, by their words.
func commands() map[string]command {
	scanned := func(behind ...want) []want {
		return append([]want{isName, isTuple, isBool, isCount}, behind...)
	}
	return map[string]command{
		"marks":   {block: true, do: (*desk).takeMarks},
		"entries": {block: true, do: (*desk).takeEntries},
		"load":    {do: (*desk).load},
		"define":  {takes: []want{isName}, block: true, do: (*desk).define},
		"evolve":  {takes: []want{isName}, block: true, do: (*desk).evolve},
		"put":     {takes: []want{isName, isTuple, isBytes}, do: (*desk).put},
		"get":     {takes: []want{isName, isTuple}, do: (*desk).get},
		"delete":  {takes: []want{isName, isTuple}, do: (*desk).delete},
		"import":  {takes: []want{isName, isBytes, isBytes}, do: (*desk).importRow},
		"key":     {takes: []want{isName, isTuple}, do: (*desk).key},
		"read":    {takes: []want{isName, isBytes}, do: (*desk).readKey},
		"scan":    {takes: scanned(), do: (*desk).scan},
		"bounds":  {takes: scanned(isBound), more: isBound, do: (*desk).bounds},
		"starts":  {takes: scanned(isBytes), do: (*desk).starts},
		"rekey":   {takes: []want{isName, isName}, more: isSource, do: (*desk).rekey},
		"names":   {do: (*desk).names},
		"schema":  {takes: []want{isName}, do: (*desk).schema},
		"len":     {takes: []want{isName}, do: (*desk).len},
		"fits":    {takes: []want{isName, isName}, do: (*desk).fits},
		"save":    {do: (*desk).save},
		"back":    {do: (*desk).back},
	}
}

// takesAll tells whether these may be a command's arguments.
func (c command) takesAll(args []api.Part) bool {
	if len(args) < len(c.takes) {
		return false
	}
	for i, p := range args {
		wanted := c.more
		if i < len(c.takes) {
			wanted = c.takes[i]
		}
		if wanted == nil || !wanted(p) {
			return false
		}
	}
	return true
}

func isBool(p api.Part) bool { return p.Kind == api.Bool }

func isBytes(p api.Part) bool { return p.Kind == api.Bytes }

func isName(p api.Part) bool { return p.Kind == api.Name }

func isTuple(p api.Part) bool { return p.Kind == api.Tuple }

func isCount(p api.Part) bool {
	n, small := nat.Small(p.Num)
	return p.Kind == api.Int && small && n >= 0 && n <= math.MaxInt32
}

// isBound: Above, Equal, and a value.
func isBound(p api.Part) bool {
	return isTuple(p) && len(p.Items) == 3 && isBool(p.Items[0]) && isBool(p.Items[1])
}

// isSource: a field's place, or a value of its own.
func isSource(p api.Part) bool {
	return isCount(p) || isTuple(p) && len(p.Items) == 1
}
