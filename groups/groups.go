// Package groups: the parts of a Group's rows, and their sums.
package groups

import (
	"spillway/api"
	"spillway/order"
)

// Part is rows that have the same values in some columns.
type Part struct {
	cols    []int
	sums    []api.Sum
	tallies []tally
	values  api.Row
}

// New makes a part with no rows yet, which has the values of this row. (With
// no columns the row may be nil.)
func New(cols []int, sums []api.Sum, row api.Row) *Part {
	p := &Part{cols: cols, sums: sums}
	for _, col := range cols {
		p.values = append(p.values, row[col])
	}
	for _, sum := range sums {
		p.tallies = append(p.tallies, newTally(sum.Op))
	}
	return p
}

// Has tells whether a row is one of the part's.
func (p *Part) Has(row api.Row) bool {
	for i, col := range p.cols {
		if order.CompareValues(row[col], p.values[i], api.Key{}) != 0 {
			return false
		}
	}
	return true
}

// Add takes one of the part's rows.
func (p *Part) Add(row api.Row) {
	for i, sum := range p.sums {
		p.tallies[i].add(row[sum.Col])
	}
}

// Row is what the part gives, in new memory. It gives up with ErrOverflow, if
// a total is no int.
func (p *Part) Row() api.Row {
	row := make(api.Row, 0, len(p.values)+len(p.tallies))
	row = append(row, p.values...)
	for _, t := range p.tallies {
		row = append(row, t.value())
	}
	return row
}
