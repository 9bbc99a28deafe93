package compat

import (
	"math/big"

	"dovetail/api"
	"dovetail/fit"
	"dovetail/nat"
	"dovetail/value"
)

// least is a number of the field that has the fewest bytes: 0, or the bound that is next to it.
func least(f api.Field) api.Num {
	n, _ := fewest([]api.Num{{}, f.Low, f.High}, func(v value.Value) bool { return has(f, v) })
	return n
}

// leastApart is such a one of those that the field f has and g has not, if there are any. These are the numbers of f below g's bounds and those above them: of each row of numbers 0 or an end of it is next to 0.
func leastApart(f, g api.Field) (api.Num, bool) {
	ends := []api.Num{{}, f.Low, f.High, moved(g.Low, -1), moved(g.High, 1)}
	return fewest(ends, func(v value.Value) bool { return has(f, v) && !has(g, v) })
}

// fewest is the first of those with the fewest bytes among the numbers that are wanted.
func fewest(numbers []api.Num, wanted func(value.Value) bool) (api.Num, bool) {
	var out api.Num
	found := false
	for _, n := range numbers {
		v, e := value.Make(api.Part{Kind: api.Int, Num: n})
		if e != api.OK || !wanted(v) { // a number next to a bound may have too many bytes to be one
			continue
		}
		if !found || bytesOf(n) < bytesOf(out) {
			out, found = n, true
		}
	}
	return out, found
}

// has tells whether a value is one of the field's.
func has(f api.Field, v value.Value) bool { return fit.Field(f, v) == nil }

// bytesOf is how many bytes a number has in a key.
func bytesOf(n api.Num) int {
	b, _ := nat.Put(n)
	return len(b)
}

// moved is the number that is by so much greater.
func moved(n api.Num, by int64) api.Num {
	b := new(big.Int).SetBytes([]byte(n.Mag))
	if n.Below {
		b.Neg(b)
	}
	b.Add(b, big.NewInt(by))
	return api.Num{Below: b.Sign() < 0, Mag: string(b.Bytes())}
}
