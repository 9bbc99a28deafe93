package space

import (
	"dovetail/api"
	"dovetail/pack"
	"dovetail/rekey"
	"dovetail/shelf"
	"dovetail/span"
	"dovetail/value"
	"dovetail/weigh"
)

// tables are what a space embeds: all that wants them is done by their methods. weigh's own stand behind a name, so that a space does not offer them as calls of its own.
type tables struct{ loaded *weigh.Tables }

// load are the tables of two texts; what is refused tells the line, and as its path which of the two it is.
func load(marks, entries string) (tables, error) {
	t, e, which, line := weigh.Load(marks, entries)
	if e != api.OK {
		return tables{}, &api.Fault{Code: e, At: line, Path: []int{which}}
	}
	return tables{loaded: t}, nil
}

// same tells whether texts weigh the same by both, as far as the tables' own texts say it.
func (t tables) same(other tables) bool {
	marks, entries := t.loaded.Texts()
	otherMarks, otherEntries := other.loaded.Texts()
	return marks == otherMarks && entries == otherEntries
}

// keyOf is the key of a part's tuple.
func (t tables) keyOf(s api.Schema, p api.Part) (string, error) {
	v, e := value.Make(p)
	if e != api.OK {
		return "", passed(e)
	}
	key, err := pack.Encode(t.loaded, s, v)
	if err != nil {
		return "", passed(err)
	}
	return key, nil
}

// rowOf is a pair as a row. Its key is one of the schema, so it is never refused.
func (t tables) rowOf(s api.Schema, p api.Pair) api.Row {
	v, _ := pack.Decode(t.loaded, s, p.Key)
	return api.Row{Part: value.Tell(v), Value: p.Value}
}

// spanOf is where the keys lie that are asked for.
func (t tables) spanOf(s api.Schema, q api.Query) (api.Span, error) {
	if q.Starts && len(q.Bounds) > 0 {
		return api.Span{}, refusal(api.ErrArg)
	}
	prefix, e := prefixOf(q)
	if e != api.OK {
		return api.Span{}, passed(e)
	}
	a, err := t.spanBehind(s, prefix, q)
	if err != nil {
		return api.Span{}, passed(err)
	}
	return a, nil
}

// prefixOf is the tuple that those begin with that are asked for; null asks for none.
func prefixOf(q api.Query) (value.Value, api.Errno) {
	v, e := value.Make(q.Prefix)
	if e == api.OK && v == nil {
		return value.Of()
	}
	return v, e
}

// spanBehind is the same behind a tuple, by what else is asked.
func (t tables) spanBehind(s api.Schema, prefix value.Value, q api.Query) (api.Span, error) {
	switch {
	case q.Starts:
		return span.Starts(t.loaded, s, prefix, q.Start)
	case len(q.Bounds) > 0:
		return span.Bounds(t.loaded, s, prefix, q.Bounds)
	}
	return span.Prefix(t.loaded, s, prefix)
}

// move puts a holding's rows among others, by their keys of another schema; the first row that has none, or one that is there, stops it.
func (t tables) move(from *holding, to api.Schema, l []api.Source, rows *shelf.Shelf) error {
	at := 0
	for p := range from.all() {
		key, err := rekey.Key(t.loaded, from.schema, to, l, p.Key)
		if err != nil {
			return &api.Fault{Code: api.ErrSpaceKeep, At: at, Why: passed(err)}
		}
		if rows.Put(key, p.Value) {
			return &api.Fault{Code: api.ErrSpaceTwice, At: at}
		}
		at++
	}
	return nil
}
