package value

import (
	"dovetail/api"
	"dovetail/nat"
)

const idBytes = 16

// truth is a value of Bool.
type truth struct{ yes bool }

func (t truth) Kind() api.Kind { return api.Bool }

func (t truth) Part() api.Part { return api.Part{Kind: api.Bool, Yes: t.yes} }

// number is a value of Int.
type number struct{ num api.Num }

func (n number) Kind() api.Kind { return api.Int }

func (n number) Part() api.Part { return api.Part{Kind: api.Int, Num: n.num} }

func (n number) Num() api.Num { return n.num }

// raw is a value of Bytes, ID, Name or Text.
type raw struct {
	kind api.Kind
	text string
}

func (r raw) Kind() api.Kind { return r.kind }

func (r raw) Part() api.Part { return api.Part{Kind: r.kind, Raw: r.text} }

func (r raw) Bytes() string { return r.text }

// tuple is a value of Tuple. It stands behind its pointer, so that whoever holds two values against each other by == never meets a list; and it knows how deep it is, as the same tuple may stand in another one very many times over.
type tuple struct {
	items []Value
	deep  int
}

// tupleOf is the tuple of these items, whose list it keeps.
func tupleOf(items []Value) *tuple {
	deepest := 0
	for _, v := range items {
		deepest = max(deepest, depth(v))
	}
	return &tuple{items: items, deep: deepest + 1}
}

func (t *tuple) Kind() api.Kind { return api.Tuple }

func (t *tuple) Part() api.Part {
	p := api.Part{Kind: api.Tuple, Items: make([]api.Part, len(t.items))}
	for i, v := range t.items {
		p.Items[i] = Tell(v)
	}
	return p
}

func (t *tuple) Len() int { return len(t.items) }

func (t *tuple) At(i int) Value {
	if i < 0 || i >= len(t.items) {
		return nil
	}
	return t.items[i]
}

// deeper tells whether a part is deeper than that; it goes no further down than that either, however deep the part is.
func deeper(p api.Part, most int) bool {
	if p.Kind != api.Tuple {
		return false
	}
	if most == 0 {
		return true
	}
	for _, item := range p.Items {
		if deeper(item, most-1) {
			return true
		}
	}
	return false
}

// mayBe tells whether a value can be made of a part that is not too deep.
func mayBe(p api.Part) bool {
	return nothingElse(p) && ownMayBe(p)
}

// nothingElse tells whether a part is zero in all that its kind does not have.
func nothingElse(p api.Part) bool {
	return (p.Kind == api.Bool || !p.Yes) &&
		(p.Kind == api.Int || p.Num == api.Num{}) &&
		(isRaw(p.Kind) || p.Raw == "") &&
		(p.Kind == api.Tuple || len(p.Items) == 0)
}

// ownMayBe tells whether that may be which a part's kind does have.
func ownMayBe(p api.Part) bool {
	switch p.Kind {
	case api.Null, api.Bool:
		return true
	case api.Int:
		return nat.Check(p.Num) == api.OK
	case api.Bytes, api.Name, api.Text:
		return len(p.Raw) <= api.MaxRaw
	case api.ID:
		return len(p.Raw) == idBytes
	case api.Tuple:
		return len(p.Items) <= api.MaxItems && allMayBe(p.Items)
	}
	return false
}

func allMayBe(items []api.Part) bool {
	for _, p := range items {
		if !mayBe(p) {
			return false
		}
	}
	return true
}

func isRaw(k api.Kind) bool {
	switch k {
	case api.Bytes, api.ID, api.Name, api.Text:
		return true
	}
	return false
}

// made is the value of a part that may be.
func made(p api.Part) Value {
	switch p.Kind {
	case api.Null:
		return nil
	case api.Bool:
		return truth{yes: p.Yes}
	case api.Int:
		return number{num: p.Num}
	case api.Tuple:
		items := make([]Value, len(p.Items))
		for i, item := range p.Items {
			items[i] = made(item)
		}
		return tupleOf(items)
	}
	return raw{kind: p.Kind, text: p.Raw}
}

// kindOf is a value's kind, also of null.
func kindOf(v Value) api.Kind {
	if v == nil {
		return api.Null
	}
	return v.Kind()
}

// depth is how deep a value is.
func depth(v Value) int {
	if t, is := v.(*tuple); is {
		return t.deep
	}
	return 0
}

// same tells whether two values are the same: what stands in both is held against each other once it is known that both are of one make.
func same(a, b Value) bool {
	switch x := a.(type) {
	case truth:
		y, is := b.(truth)
		return is && x == y
	case number:
		y, is := b.(number)
		return is && x == y
	case raw:
		y, is := b.(raw)
		return is && x == y
	case *tuple:
		y, is := b.(*tuple)
		return is && sameItems(x, y)
	}
	return a == nil && b == nil
}

// sameItems tells whether two tuples have the same items; one and the same tuple is not gone through, as it may be far greater than it took to make it.
func sameItems(a, b *tuple) bool {
	if a == b {
		return true
	}
	if len(a.items) != len(b.items) {
		return false
	}
	for i, v := range a.items {
		if !same(v, b.items[i]) {
			return false
		}
	}
	return true
}

// asNumber, asRaw and asList ask a value what it can do; of null, too.
func asNumber(v Value) (Number, bool) {
	if n, is := v.(Number); is {
		return n, true
	}
	return nil, false
}

func asRaw(v Value) (Raw, bool) {
	if r, is := v.(Raw); is {
		return r, true
	}
	return nil, false
}

func asList(v Value) (List, bool) {
	if l, is := v.(List); is {
		return l, true
	}
	return nil, false
}
