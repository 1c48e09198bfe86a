package order

import (
	"cmp"
	"strings"

	"spillway/api"
)

// Compare is less than 0, if a row comes ahead of another one by some keys,
// more, if behind it, and 0, if they are alike by all of them. It asks for no
// memory, as the texts of Encode would.
func Compare(a, b api.Row, keys []api.Key) int {
	for _, key := range keys {
		if way := CompareValues(a[key.Col], b[key.Col], key); way != 0 {
			return way
		}
	}
	return 0
}

// CompareValues is the same of two values of one kind, or Null; the key's column
// does not matter. It need not ask for the kind of two that are not Null: what
// a kind does not have is alike in both.
func CompareValues(a, b api.Value, key api.Key) int {
	way, back := 0, key.Down
	if a.Kind == api.Null || b.Kind == api.Null {
		way, back = cmp.Compare(a.Kind, b.Kind), key.Last
	} else if way = cmp.Compare(a.N, b.N); way == 0 {
		way = strings.Compare(a.S, b.S)
	}
	if back {
		return -way
	}
	return way
}
