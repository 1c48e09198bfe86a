// Package promises: the document's promises, tested through the calls alone.
package promises

import (
	"math"

	"spillway/api"
)

// row is a row of ints, texts, bools (flags) and nils (Null).
func row(values ...any) api.Row {
	r := api.Row{}
	for _, v := range values {
		r = append(r, value(v))
	}
	return r
}

func value(v any) api.Value {
	switch x := v.(type) {
	case int:
		return api.Value{Kind: api.Int, N: x}
	case string:
		return api.Value{Kind: api.Text, S: x}
	case bool:
		if x {
			return api.Value{Kind: api.Flag, N: 1}
		}
		return api.Value{Kind: api.Flag}
	}
	return api.Value{}
}

// edgeInts are numbers at which a place or a count may go wrong.
func edgeInts() []int {
	return []int{math.MinInt, math.MinInt + 1, -1 << 32, -256, -1, 0, 1, 2, 3, 4, 5, 8, 11, 12, 13, 255, 1000, 1001, 1 << 32, math.MaxInt - 1, math.MaxInt}
}
