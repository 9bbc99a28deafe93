package fit

import (
	"strings"

	"dovetail/api"
)

const idBytes = 16

// least is the part of a field's first value, where the field may be.
func least(f api.Field) api.Part {
	p := api.Part{Kind: f.Kind}
	switch f.Kind {
	case api.Int:
		// without bounds Low is 0; and the value shares no memory with the field
		p.Num = api.Num{Below: f.Low.Below, Mag: strings.Clone(f.Low.Mag)}
	case api.ID:
		p.Raw = strings.Repeat("\x00", idBytes)
	case api.Tuple:
		for _, g := range f.Fields {
			p.Items = append(p.Items, least(g))
		}
	}
	return p
}
