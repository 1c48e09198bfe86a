package plans

import "spillway/api"

// placesByName tells where the table of each name stands; false, if two tables
// have the same name.
func placesByName(tables []api.Table) (map[string]int, bool) {
	places := make(map[string]int, len(tables))
	for place, t := range tables {
		if _, ok := places[t.Name]; ok {
			return nil, false
		}
		places[t.Name] = place
	}
	return places, true
}

func goodTables(tables []api.Table) bool {
	for _, t := range tables {
		if !goodKinds(t.Kinds) || !goodRows(t.Rows, t.Kinds) {
			return false
		}
	}
	return true
}

func goodKinds(kinds []int) bool {
	if len(kinds) < 1 || len(kinds) > api.MaxCols {
		return false
	}
	for _, kind := range kinds {
		if kind != api.Int && kind != api.Text && kind != api.Flag {
			return false
		}
	}
	return true
}

func goodRows(rows []api.Row, kinds []int) bool {
	for _, row := range rows {
		if len(row) != len(kinds) {
			return false
		}
		for col, v := range row {
			if v.Kind != api.Null && v.Kind != kinds[col] || !goodValue(v) {
				return false
			}
		}
	}
	return true
}

func goodValue(v api.Value) bool {
	switch v.Kind {
	case api.Null:
		return v.N == 0 && v.S == ""
	case api.Int:
		return v.S == ""
	case api.Text:
		return v.N == 0 && len(v.S) <= api.MaxText
	case api.Flag:
		return (v.N == 0 || v.N == 1) && v.S == ""
	}
	return false
}
