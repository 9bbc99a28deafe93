package schema

import (
	"slices"

	"dovetail/api"
)

// tour goes through fields from the front on, each ahead of those within it.
type tour struct {
	path  []int // of the field that it has come to
	count int   // of the fields up to that one, itself too
	see   func(ahead []api.Field, f api.Field)
}

// goThrough sees each of these fields, with those ahead of it, and all within it.
func (t *tour) goThrough(fields []api.Field) {
	t.path = append(t.path, 0)
	last := len(t.path) - 1
	for i, f := range fields {
		t.path[last] = i
		t.count++
		t.see(fields[:i], f)
		t.goThrough(f.Fields)
	}
	t.path = t.path[:last]
}

// here is the path of the field that it has come to.
func (t *tour) here() []int { return slices.Clone(t.path) }

// need gives up, at the field that it has come to, what does not hold.
func (t *tour) need(holds bool, why api.Errno) {
	if !holds {
		panic(lost{why: why, path: t.here(), count: t.count})
	}
}

// needRoom gives up behind the last field, and below the deepest one, that a schema may have; so no tour is long.
func (t *tour) needRoom() {
	t.need(t.count <= api.MaxFields, api.ErrSchemaMany)
	t.need(len(t.path) <= api.MaxDepth, api.ErrSchemaDeep)
}

// needRight gives up at a field that may not be, where those stand ahead of it in its tuple.
func (t *tour) needRight(ahead []api.Field, f api.Field) {
	t.needRoom()
	t.need(isName(f.Name), api.ErrSchemaName)
	t.need(!slices.ContainsFunc(ahead, func(g api.Field) bool { return g.Name == f.Name }), api.ErrSchemaTwice)
	t.need(maySay(f), api.ErrSchemaRange)
	t.need(f.Kind != api.Tuple || len(f.Fields) > 0, api.ErrSchemaEmpty)
}

// check is what is wrong with a schema, or nil.
func check(s api.Schema) *lost {
	return givenUp(func() {
		t := tour{}
		t.see = t.needRight
		t.need(s.Limit >= 1 && s.Limit <= api.MaxKey, api.ErrSchemaRange)
		t.need(len(s.Fields) > 0, api.ErrSchemaEmpty)
		t.goThrough(s.Fields)
	})
}

// isName tells whether a field may be called so.
func isName(s string) bool {
	if s == "" || len(s) > api.MaxName || !isSmall(s[0]) {
		return false
	}
	for i := range len(s) {
		if !isSmall(s[i]) && !isDigit(s[i]) && s[i] != '-' {
			return false
		}
	}
	return true
}

func isSmall(c byte) bool { return c >= 'a' && c <= 'z' }

func isDigit(c byte) bool { return c >= '0' && c <= '9' }
