package space

import (
	"errors"
	"iter"
	"slices"
	"strings"

	"dovetail/api"
	"dovetail/compat"
	"dovetail/schema"
	"dovetail/shelf"
)

// holding is what a space has by a name: a schema, and the rows of it by their keys.
type holding struct {
	schema api.Schema
	rows   *shelf.Shelf
}

// find is the holding of that name.
func (s *Space) find(name string) (*holding, error) {
	if s == nil {
		return nil, refusal(api.ErrNil)
	}
	h, is := s.schemas[name]
	if !is {
		return nil, refusal(api.ErrSpaceName)
	}
	return h, nil
}

// room is the holding in which that may be kept.
func (s *Space) room(name, kept string) (*holding, error) {
	h, err := s.find(name)
	if err != nil {
		return nil, err
	}
	if len(kept) > api.MaxRaw {
		return nil, refusal(api.ErrLong)
	}
	return h, nil
}

// seek is the holding of that name, and the key of a part's tuple there.
func (s *Space) seek(name string, p api.Part) (*holding, string, error) {
	h, err := s.find(name)
	if err != nil {
		return nil, "", err
	}
	key, err := s.keyOf(h.schema, p)
	if err != nil {
		return nil, "", err
	}
	return h, key, nil
}

// isWeighed tells whether there are keys that may hang on what texts weigh.
func (s *Space) isWeighed() bool {
	return slices.ContainsFunc(s.Names(), func(name string) bool {
		h := s.schemas[name]
		return h.rows.Len() > 0 && hasText(h.schema.Fields)
	})
}

// hasText tells whether there is a text among fields, or within one.
func hasText(fields []api.Field) bool {
	return slices.ContainsFunc(fields, func(f api.Field) bool { return f.Kind == api.Text || hasText(f.Fields) })
}

// mayBecome tells whether a schema can stand in the place of the holding's: its keys, if there are any, must be that one's.
func (h *holding) mayBecome(to api.Schema) bool {
	if h.rows.Len() == 0 {
		return true
	}
	v, _ := compat.Check(h.schema, to) // both have been parsed, so neither is refused
	return v.Fits
}

// keep puts a row in, in whatever row's place that has its key. A piece of a longer text would hold on to all of it: so what is kept is taken out of it.
func (h *holding) keep(key, value string) {
	h.rows.Put(strings.Clone(key), strings.Clone(value))
}

// all goes through the rows, by rising keys.
func (h *holding) all() iter.Seq[api.Pair] { return h.rows.Scan(api.Span{Open: true}, false) }

// clone is another one, alike. A schema is never written into, so both may have the same.
func (h *holding) clone() *holding { return &holding{schema: h.schema, rows: h.rows.Clone()} }

// copied is a schema in memory of its own: schema.Find tells each field so.
func copied(s api.Schema) api.Schema {
	out := api.Schema{Limit: s.Limit}
	for i := range s.Fields {
		f, _ := schema.Find(s, []int{i})
		out.Fields = append(out.Fields, f)
	}
	return out
}

// isName tells whether a schema may be called so: just as a field may, which layer 11 can be asked.
func isName(name string) bool {
	err := schema.Check(api.Schema{Limit: 1, Fields: []api.Field{{Name: name, Kind: api.Bool}}})
	return !errors.Is(err, api.ErrSchemaName)
}
