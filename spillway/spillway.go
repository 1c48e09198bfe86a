// Package spillway: queries over more rows than there is room for: see DOC.md.
package spillway

import (
	"spillway/api"
	"spillway/disk"
	"spillway/order"
	"spillway/plans"
)

// Valid tells whether a plan is valid for some tables (P4).
func Valid(tables []api.Table, plan []api.Node) api.Errno {
	if !plans.Valid(tables, plan) {
		return api.ErrPlan
	}
	return api.OK
}

// Encode tells a row's text by some keys (P5).
func Encode(row api.Row, keys []api.Key) string { return order.Encode(row, keys) }

// Query answers a query (P6).
func Query(tables []api.Table, plan []api.Node, c api.Config, d *disk.Disk) ([]api.Row, api.Errno) {
	return nil, api.OK
}
