package rekey

import (
	"errors"

	"dovetail/api"
	"dovetail/value"
)

// errNoItem is what is wrong with a source that asks for an item which is not there; it comes of nothing else.
var errNoItem = errors.New("no such item")

// listOf is a value as the list that it is; an assertion that fails, of null too, says that it is none.
func listOf(v value.Value) (l value.List, err error) {
	defer func() {
		if recover() != nil {
			l, err = nil, &api.Fault{Code: api.ErrKind}
		}
	}()
	return v.(value.List), nil
}

// tupleFrom is the tuple of what each source tells. There are no more of them than a tuple has items, and none is deeper than an item may be, so value.Of refuses nothing.
func tupleFrom(l []api.Source, from value.List) (value.Value, error) {
	items := make([]value.Value, len(l))
	for i, s := range l {
		item, err := itemOf(s, from)
		if err != nil {
			return nil, wrongSource(i, err)
		}
		items[i] = item
	}
	made, _ := value.Of(items...)
	return made, nil
}

// itemOf is what a source tells: an item of the old tuple, or a value of its own.
func itemOf(s api.Source, from value.List) (value.Value, error) {
	switch {
	case s.Field < 0:
		return ownItem(s.Part)
	case s.Field >= from.Len():
		return nil, errNoItem
	}
	return from.At(s.Field), nil
}

// ownItem is the value of a part that may stand within a tuple: one less deep than a value may be.
func ownItem(p api.Part) (value.Value, error) {
	v, e := value.Make(p)
	if e != api.OK {
		return nil, e
	}
	if value.Depth(v) == api.MaxDepth {
		return nil, api.ErrValueDeep
	}
	return v, nil
}

// wrongSource is the Fault of the source at a place; it comes of the number that its part was refused by, if there is one.
func wrongSource(place int, err error) error {
	bad := &api.Fault{Code: api.ErrRekeyMap, At: place}
	var why api.Errno
	if errors.As(err, &why) {
		bad.Why = why
	}
	return bad
}
