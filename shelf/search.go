package shelf

import (
	"strings"

	"dovetail/api"
)

// A way steers a search: of a key that is met it tells where to go on, below 0 among the lower keys, above 0 among the higher ones; 0: this is one that is looked for.
type way func(met string) int

// toward is the way to a key.
func toward(key string) way {
	return func(met string) int { return strings.Compare(key, met) }
}

// into is the way to the keys of a span.
func into(a api.Span) way {
	return func(met string) int {
		switch {
		case met < a.From:
			return 1
		case !a.Open && met >= a.To:
			return -1
		}
		return 0
	}
}
