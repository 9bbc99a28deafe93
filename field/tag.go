package field

import "dovetail/api"

const (
	nullFirst = "\x02" // below each tag of what is not null
	nullLast  = "\x7d" // above each
	rising    = 0x10   // a tag is so much more than the kind
	falling   = 0x20   // and so much, if the field falls

	no  = "\x00"
	yes = "\x01"

	idBytes = 16

	someMode = 0x20 // a mode byte is so much more than the strength
	shifted  = 4
	back     = 8

	levelEnd = "\x00\x00" // behind each level of a sort key; no weight is so
	tupleEnd = "\x01"     // behind a tuple's fields
)

// nullTag is the tag of null; none, where there may be no null.
func nullTag(n api.Nulls) string {
	switch n {
	case api.NullFirst:
		return nullFirst
	case api.NullLast:
		return nullLast
	}
	return ""
}

// tag is that of a field's values that are not null.
func tag(f api.Field) string {
	if f.Down {
		return oneByte(falling + int(f.Kind))
	}
	return oneByte(rising + int(f.Kind))
}

// mode is what stands ahead of a sort key: keys of other collations are never taken for it.
func mode(c api.Collate) string {
	m := someMode + c.Strength
	if c.Shifted {
		m += shifted
	}
	if c.Back {
		m += back
	}
	return oneByte(m)
}

func oneByte(n int) string { return string([]byte{byte(n)}) }
