package queries

import (
	"iter"

	"spillway/api"
	"spillway/records"
	"spillway/runs"
)

// waits: must the rows of a node wait on the disk? Those that the next node
// takes need not: all the nodes that take rows from one side alone go through
// them ahead of anything of their own. Those of joins, and those that a join
// takes, wait all the same: with both sides of a join in memory there is no
// room for one more sorter. The root's become the answer, a table's are there.
func waits(plan []api.Node, place int) bool {
	if place == len(plan)-1 || plan[place].Op == api.Scan {
		return false
	}
	next := plan[place+1]
	return next.Left != place || isJoin(next) || isJoin(plan[place])
}

func isJoin(n api.Node) bool { return n.Op == api.Join || n.Op == api.Outer }

// stored goes through some rows at once; they are on the disk until somebody
// has taken them.
func (q *query) stored(rows iter.Seq[api.Row]) iter.Seq[api.Row] {
	run := runs.Shelf{Disk: q.disk, Block: q.config.Block}.New()
	q.waiting = append(q.waiting, run)
	for row := range rows {
		run.Add(records.Record{Row: row})
	}
	run.End()
	return func(yield func(api.Row) bool) {
		defer run.Delete()
		reader := run.Reader()
		for {
			record, ok := reader.Next()
			if !ok || !yield(record.Row) {
				return
			}
		}
	}
}

// giveBack deletes what waits on the disk; it does no harm to what is gone
// already.
func (q *query) giveBack() {
	for _, run := range q.waiting {
		run.Delete()
	}
}
