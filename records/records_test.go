package records

import (
	"math"
	"slices"
	"strings"
	"testing"

	"spillway/api"
)

func TestTakeGivesWhatWasAppended(t *testing.T) {
	row := api.Row{
		{}, {Kind: api.Int, N: math.MinInt}, {Kind: api.Int, N: -1}, {Kind: api.Int, N: math.MaxInt}, {Kind: api.Flag, N: 1}, {Kind: api.Flag},
		{Kind: api.Text}, {Kind: api.Text, S: "\x00\xff"}, {Kind: api.Text, S: strings.Repeat("x", api.MaxText)}, {Kind: api.Text, S: strings.Repeat("y", 300)},
	}
	for from := range row {
		for to := from; to <= len(row); to++ {
			record := Record{Number: 12345 * to, Row: row[from:to]}
			text := Append(nil, record)
			if len(text) != Size(record.Row) {
				t.Errorf("%d bytes, want %d", len(text), Size(record.Row))
			}
			got, rest := Take(string(text)+"rest", len(record.Row))
			if got.Number != record.Number || !slices.Equal(got.Row, record.Row) || rest != "rest" {
				t.Errorf("%v and %q, want %v", got, rest, record)
			}
		}
	}
}

func TestSizeOfTheExample(t *testing.T) {
	if size := Size(api.Row{{Kind: api.Int, N: 2}, {Kind: api.Text, S: "b"}}); size != 21 {
		t.Errorf("the size of (2, \"b\") is %d", size)
	}
}
