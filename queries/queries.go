// Package queries works the nodes of a plan out. What goes wrong gives up by
// panic with the error.
package queries

import (
	"iter"
	"slices"

	"spillway/api"
	"spillway/disk"
	"spillway/records"
	"spillway/runs"
	"spillway/sorts"
)

type query struct {
	tables []api.Table
	config api.Config
	disk   *disk.Disk
}

// Answer gives the rows of a valid plan's root, in new memory. The nodes are
// worked out in the list's order, as the first of them that has an error
// decides. Sorting has no errors of its own, so it waits until its rows are
// asked for, and no two sorters but one and the one whose rows it takes have
// something in memory at one time.
func Answer(tables []api.Table, plan []api.Node, c api.Config, d *disk.Disk) []api.Row {
	q := query{tables, c, d}
	results := make([]iter.Seq[api.Row], len(plan))
	for place, n := range plan {
		results[place] = q.result(n, results)
	}
	return copied(results[len(plan)-1])
}

// result is what a node gives, from what those ahead of it give; each of these
// is gone through at most once. Of an operation that there is not yet the
// plan is refused.
func (q query) result(n api.Node, results []iter.Seq[api.Row]) iter.Seq[api.Row] {
	switch n.Op {
	case api.Scan:
		return q.scanned(n.Table)
	case api.Sort:
		return q.sorted(results[n.Left], n.Keys, api.MaxRows)
	case api.Top:
		return q.sorted(results[n.Left], n.Keys, n.Count)
	}
	panic(api.ErrPlan)
}

func (q query) scanned(name string) iter.Seq[api.Row] {
	place := slices.IndexFunc(q.tables, func(t api.Table) bool { return t.Name == name })
	rows := q.tables[place].Rows
	if len(rows) > api.MaxRows {
		panic(api.ErrMany)
	}
	for _, row := range rows {
		if records.Size(row) > q.config.Block-runs.Head {
			panic(api.ErrRow)
		}
	}
	return slices.Values(rows)
}

// sorted is the first count of some rows by keys. Its sorter's files are given
// back however its loop is left: at the end, ahead of it, or by a panic below
// it or in what takes its rows.
func (q query) sorted(left iter.Seq[api.Row], keys []api.Key, count int) iter.Seq[api.Row] {
	return func(yield func(api.Row) bool) {
		sorter := sorts.New(q.config, q.disk, keys, count)
		defer sorter.Close()
		for row := range left {
			sorter.Add(row)
		}
		sorter.End()
		for {
			row, ok := sorter.Next()
			if !ok || !yield(row) {
				return
			}
		}
	}
}

// copied leaves no row of the answer sharing memory with a table's, or with
// another one's.
func copied(rows iter.Seq[api.Row]) []api.Row {
	var list []api.Row
	for row := range rows {
		list = append(list, slices.Clone(row))
	}
	return list
}
