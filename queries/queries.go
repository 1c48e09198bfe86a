// Package queries works the nodes of a plan out. What goes wrong gives up by
// panic with the error.
package queries

import (
	"iter"
	"slices"

	"spillway/api"
	"spillway/disk"
	"spillway/records"
	"spillway/runs"
	"spillway/sorts"
)

type query struct {
	tables  []api.Table
	config  api.Config
	disk    *disk.Disk
	waiting []*runs.Run
}

// result is what a node gives: so many columns, and rows, which are gone
// through at most once, and then to their end.
type result struct {
	cols int
	rows iter.Seq[api.Row]
}

// Answer gives the rows of a valid plan's root, in new memory. The first node
// of the list that has an error decides: so the rows of each node are gone
// through ahead of anything that a later one could tell.
func Answer(tables []api.Table, plan []api.Node, c api.Config, d *disk.Disk) []api.Row {
	q := &query{tables: tables, config: c, disk: d}
	defer q.giveBack()
	results := make([]result, len(plan))
	for place, n := range plan {
		results[place] = q.result(n, results)
		if waits(plan, place) {
			results[place].rows = q.stored(results[place].rows)
		}
	}
	return copied(results[len(plan)-1].rows)
}

func (q *query) result(n api.Node, results []result) result {
	left, right := results[n.Left], results[n.Right]
	switch n.Op {
	case api.Scan:
		return q.scanned(n.Table)
	case api.Sort:
		return result{left.cols, q.sorted(left.rows, n.Keys, api.MaxRows)}
	case api.Top:
		return result{left.cols, q.sorted(left.rows, n.Keys, n.Count)}
	case api.Distinct:
		return result{left.cols, q.distinct(left)}
	case api.Group:
		return result{len(n.Cols) + len(n.Sums), q.checked(q.grouped(n, left.rows))}
	}
	return result{left.cols + right.cols, q.checked(q.joined(n, left.rows, right))}
}

// scanned looks at all rows at once: a later node may have an error too.
func (q *query) scanned(name string) result {
	place := slices.IndexFunc(q.tables, func(t api.Table) bool { return t.Name == name })
	table := q.tables[place]
	rows := slices.Values(table.Rows)
	for range q.checked(rows) {
	}
	return result{len(table.Kinds), rows}
}

// checked gives up, if there are too many rows; or behind the last one, if one
// was too large, as that is told only if nothing else is wrong with the node.
// What comes behind such a row is not given: nobody will ask for it.
func (q *query) checked(rows iter.Seq[api.Row]) iter.Seq[api.Row] {
	return func(yield func(api.Row) bool) {
		count, large := 0, false
		for row := range rows {
			count++
			if count > api.MaxRows {
				panic(api.ErrMany)
			}
			large = large || records.Size(row) > q.config.Block-runs.Head
			if !large && !yield(row) {
				return
			}
		}
		if large {
			panic(api.ErrRow)
		}
	}
}

// sorted is the first count of some rows by keys. Its sorter's files are given
// back however its loop is left: at the end, ahead of it, or by a panic below
// it or in what takes its rows.
func (q *query) sorted(left iter.Seq[api.Row], keys []api.Key, count int) iter.Seq[api.Row] {
	return func(yield func(api.Row) bool) {
		sorter := sorts.New(q.config, q.disk, keys, count)
		defer sorter.Close()
		for row := range left {
			sorter.Add(row)
		}
		sorter.End()
		for {
			row, ok := sorter.Next()
			if !ok || !yield(row) {
				return
			}
		}
	}
}

// byColumns are keys by which rows come in the order of some columns' values.
func byColumns(cols []int) []api.Key {
	keys := make([]api.Key, len(cols))
	for i, col := range cols {
		keys[i].Col = col
	}
	return keys
}

// copied leaves no row of the answer sharing memory with a table's, or with
// another one's.
func copied(rows iter.Seq[api.Row]) []api.Row {
	var list []api.Row
	for row := range rows {
		list = append(list, slices.Clone(row))
	}
	return list
}
