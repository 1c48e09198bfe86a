package promises

import (
	"cmp"
	"fmt"
	"math"
	"math/rand"
	"strings"
	"testing"

	"spillway/api"
	"spillway/spillway"
)

// compareByKey is the document's order, said once more without any text.
func compareByKey(a, b api.Value, key api.Key) int {
	if a.Kind == api.Null || b.Kind == api.Null {
		nulls := cmp.Compare(a.Kind, b.Kind)
		if key.Last {
			return -nulls
		}
		return nulls
	}
	order := cmp.Compare(a.N, b.N)
	if a.Kind == api.Text {
		order = strings.Compare(a.S, b.S)
	}
	if key.Down {
		return -order
	}
	return order
}

func compareByKeys(a, b api.Row, keys []api.Key) int {
	for _, key := range keys {
		if order := compareByKey(a[key.Col], b[key.Col], key); order != 0 {
			return max(-1, min(1, order))
		}
	}
	return 0
}

func checkPair(t *testing.T, a, b api.Row, keys []api.Key) {
	t.Helper()
	x, y := spillway.Encode(a, keys), spillway.Encode(b, keys)
	if got, want := strings.Compare(x, y), compareByKeys(a, b, keys); got != want {
		t.Errorf("P5: %v and %v by %v: %x and %x: %d, want %d", a, b, keys, x, y, got, want)
	}
	if x != y && (strings.HasPrefix(x, y) || strings.HasPrefix(y, x)) {
		t.Errorf("P5: %v and %v by %v: %x and %x: one begins with the other", a, b, keys, x, y)
	}
}

func allKeys(col int) []api.Key {
	return []api.Key{{Col: col}, {Col: col, Down: true}, {Col: col, Last: true}, {Col: col, Down: true, Last: true}}
}

// valuesOfKinds has values at the edges, by their kinds, and Null with each.
func valuesOfKinds() [][]api.Value {
	lists := [][]api.Value{api.Null: {{}}, api.Int: {{}}, api.Text: {{}}, api.Flag: {{}, value(false), value(true)}}
	for _, n := range edgeInts() {
		lists[api.Int] = append(lists[api.Int], value(n))
	}
	for shift := range 63 {
		lists[api.Int] = append(lists[api.Int], value(1<<shift), value(-1<<shift), value(1<<shift-1), value(-1<<shift-1))
	}
	bytes := []string{"", "\x00", "\x01", "\x02", "a", "\xfe", "\xff"}
	for _, a := range bytes {
		for _, b := range bytes {
			for _, c := range bytes {
				lists[api.Text] = append(lists[api.Text], value(a+b+c))
			}
		}
	}
	for _, b := range bytes[1:] {
		lists[api.Text] = append(lists[api.Text], value(strings.Repeat(b, api.MaxText)), value(strings.Repeat(b, api.MaxText-1)))
	}
	return lists
}

func TestEncodeOneKey(t *testing.T) {
	for _, values := range valuesOfKinds() {
		for _, a := range values {
			for _, b := range values {
				for _, key := range allKeys(0) {
					checkPair(t, api.Row{a}, api.Row{b}, []api.Key{key})
				}
			}
		}
	}
}

// TestEncodeTwoKeys: what one value's text ends with must not reach into the next one's.
func TestEncodeTwoKeys(t *testing.T) {
	texts := []any{nil, "", "\x00", "\x00\x00", "\x01", "\x02", "\xff", "\xff\xff", "\x00\xff"}
	seconds := [][]any{texts, {nil, math.MinInt, -1, 0, 1, 255, math.MaxInt}, {nil, false, true}}
	for _, second := range seconds {
		var rows []api.Row
		for _, a := range texts {
			for _, b := range second {
				rows = append(rows, row(a, b))
			}
		}
		for _, first := range allKeys(0) {
			for _, next := range allKeys(1) {
				for _, a := range rows {
					for _, b := range rows {
						checkPair(t, a, b, []api.Key{first, next})
						checkPair(t, a, b, []api.Key{next, first})
					}
				}
			}
		}
	}
}

func TestEncodeManyKeys(t *testing.T) {
	r := rand.New(rand.NewSource(5))
	lists := valuesOfKinds()
	for range 20000 {
		cols := 1 + r.Intn(api.MaxCols+2)
		a, b := make(api.Row, cols), make(api.Row, cols)
		for col := range cols {
			values := lists[1+r.Intn(3)]
			a[col], b[col] = values[r.Intn(len(values))], values[r.Intn(len(values))]
			if r.Intn(3) > 0 {
				b[col] = a[col]
			}
		}
		keys := make([]api.Key, r.Intn(api.MaxKeys+3))
		for i := range keys {
			keys[i] = api.Key{Col: r.Intn(cols), Down: r.Intn(2) == 0, Last: r.Intn(2) == 0}
		}
		checkPair(t, a, b, keys)
	}
}

func TestEncodeRandomInts(t *testing.T) {
	r := rand.New(rand.NewSource(6))
	for range 20000 {
		a := int(r.Uint64()) >> r.Intn(64)
		b := int(r.Uint64()) >> r.Intn(64)
		for _, key := range allKeys(0) {
			checkPair(t, row(a), row(b), []api.Key{key})
		}
	}
}

func TestEncodeLeavesOtherColumnsOut(t *testing.T) {
	keys := []api.Key{{Col: 1}}
	if spillway.Encode(row(1, "a", true), keys) != spillway.Encode(row(2, "a", nil), keys) {
		t.Error("P5: rows that are alike by the key have different texts")
	}
	if spillway.Encode(row(1), nil) != spillway.Encode(row(2), nil) {
		t.Error("P5: rows by no keys have different texts")
	}
}

func TestEncodeSortsTheExample(t *testing.T) {
	b, a, c, d := row(2, "b"), row(1, "a"), row(nil, "c"), row(2, "a")
	for _, x := range []struct {
		keys []api.Key
		rows []api.Row
	}{
		{[]api.Key{{}}, []api.Row{c, a, b}},
		{[]api.Key{{Down: true, Last: true}}, []api.Row{b, a, c}},
		{[]api.Key{{}, {Col: 1}}, []api.Row{c, a, d, b}},
		{[]api.Key{{Last: true}, {Col: 1, Down: true}}, []api.Row{a, b, d, c}},
	} {
		for i := 1; i < len(x.rows); i++ {
			if spillway.Encode(x.rows[i-1], x.keys) >= spillway.Encode(x.rows[i], x.keys) {
				t.Errorf("P5: %v does not come ahead of %v by %v", x.rows[i-1], x.rows[i], x.keys)
			}
		}
		if e, f := spillway.Encode(b, x.keys[:1]), spillway.Encode(d, x.keys[:1]); e != f {
			t.Errorf("P5: alike by %v: %x and %x", x.keys[:1], e, f)
		}
	}
}

func TestEncodeOfNoColumn(t *testing.T) {
	good := []api.Key{{Col: 1, Down: true}, {Col: 0}, {Col: 2, Last: true}}
	r := row(7, "a", nil)
	for _, col := range edgeInts() {
		for at := range len(good) + 1 {
			keys := append([]api.Key{}, good[:at]...)
			keys = append(keys, api.Key{Col: col, Down: true, Last: true})
			keys = append(keys, good[at:]...)
			none := col < 0 || col >= len(r)
			if got := spillway.Encode(r, keys); (got == "") != none {
				t.Errorf("P5: %v: %x", fmt.Sprint(keys), got)
			}
		}
	}
	for _, empty := range []api.Row{nil, {}} {
		if spillway.Encode(empty, []api.Key{{}}) != "" {
			t.Error("P5: a key of a row without columns")
		}
	}
}
