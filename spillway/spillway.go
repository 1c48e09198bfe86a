// Package spillway: queries over more rows than there is room for: see DOC.md.
package spillway

import (
	"spillway/api"
	"spillway/disk"
	"spillway/order"
	"spillway/plans"
	"spillway/queries"
)

// Valid tells whether a plan is valid for some tables (P4).
func Valid(tables []api.Table, plan []api.Node) api.Errno {
	if !plans.Valid(tables, plan) {
		return api.ErrPlan
	}
	return api.OK
}

// Encode tells a row's text by some keys (P5).
func Encode(row api.Row, keys []api.Key) string { return order.Encode(row, keys) }

// Query answers a query (P6). What gives up deep within is caught here.
func Query(tables []api.Table, plan []api.Node, c api.Config, d *disk.Disk) (rows []api.Row, e api.Errno) {
	defer func() {
		if why := recover(); why != nil {
			rows, e = nil, errnoOf(why)
		}
	}()
	if !plans.Valid(tables, plan) || !goodConfig(c) {
		return nil, api.ErrPlan
	}
	if c.Budget < 4*c.Block || d.Block() < c.Block {
		return nil, api.ErrBudget
	}
	return queries.Answer(tables, plan, c, d), api.OK
}

func goodConfig(c api.Config) bool {
	block := c.Block >= api.MinBlock && c.Block <= api.MaxBlock
	fan := c.Fan >= api.MinFan && c.Fan <= api.MaxFan
	return block && fan
}

// errnoOf is the error with which something gave up. Anything else would be a
// fault of the program itself: no rows are given then, as they could be wrong.
func errnoOf(why any) api.Errno {
	if e, ok := why.(api.Errno); ok {
		return e
	}
	return api.ErrFail
}
