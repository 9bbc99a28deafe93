package space_test

import (
	"math/rand"
	"strings"

	"dovetail/api"
	"dovetail/nat"
)

// Tables with an element of each sort: texts are told apart by one level only, or by none though their bytes differ.
const (
	oddMarks   = "0301;230;\n0302;230;\n0323;220;\n00E1;0;0061 0301"
	oddEntries = "0061;[.1000.0020.0002]\n" +
		"0041;[.1000.0020.0008]\n" + // by the third level
		"0062;[.1001.0020.0002]\n" +
		"0063;[.00FF.0020.0002]\n" + // weights with bytes 00 in them, that end no level
		"0301;[.0000.0024.0002]\n" + // by the second level
		"0302;[.0000.0025.0002]\n" +
		"0323;[.0000.0000.0000]\n" + // by none
		"0020;[*0209.0020.0002]\n" + // by the fourth level, if it is shifted
		"007E;[*020B.0020.0002]" // whose byte stands behind those of letters
)

// some is one of several.
func some[T any](r *rand.Rand, l ...T) T { return l[r.Intn(len(l))] }

// anyPart is some value of a field, one of few.
func anyPart(r *rand.Rand, f api.Field) api.Part {
	if f.Nulls != api.NeverNull && r.Intn(4) == 0 {
		return api.Part{}
	}
	switch f.Kind {
	case api.Bool:
		return api.Part{Kind: api.Bool, Yes: r.Intn(2) == 0}
	case api.Int:
		return api.Part{Kind: api.Int, Num: anyNumber(r, f)}
	case api.Bytes:
		return api.Part{Kind: api.Bytes, Raw: cut(some(r, "", "a", "b", "ab", "\x00", "\x00\x00", "a\x00", "\xff", "\xff\x00"), f.Most)}
	case api.Name:
		return api.Part{Kind: api.Name, Raw: cut(some(r, "", "a", "b", "ab", "\x00", "a\x00", "z"), f.Most)}
	case api.ID:
		return api.Part{Kind: api.ID, Raw: strings.Repeat("\x00", 15) + some(r, "\x00", "\x7f", "\x80", "\xff")}
	case api.Text:
		return api.Part{Kind: api.Text, Raw: some(r, "", "a", "A", "b", "c", "ab", "aA", "a b", "a~b", " ", "\u00e1", "a\u0301", "a\u0302", "a\u0323", "\u0323", "\u4e00", "\x00")}
	}
	return anyTuple(r, api.Schema{Fields: f.Fields})
}

func cut(s string, most int) string { return s[:min(len(s), most)] }

// anyNumber is some number of a field: an edge that lies within the bounds, or one of them.
func anyNumber(r *rand.Rand, f api.Field) api.Num {
	n := nat.Of(some(r, -300, -256, -1, 0, 1, 2, 255, 256, 300))
	low, _ := nat.Compare(f.Low, n)
	high, _ := nat.Compare(n, f.High)
	if f.Bounded && (low > 0 || high > 0) {
		return some(r, f.Low, f.High)
	}
	return n
}

// anyTuple is some tuple of a schema.
func anyTuple(r *rand.Rand, s api.Schema) api.Part {
	p := api.Part{Kind: api.Tuple}
	for _, f := range s.Fields {
		p.Items = append(p.Items, anyPart(r, f))
	}
	return p
}
