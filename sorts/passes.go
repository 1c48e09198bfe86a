package sorts

import (
	"spillway/api"
	"spillway/runs"
)

// Pass is a way through sorted rows. It is a plain value: a copy of it stays
// where it is when the other goes on, and goes on from there.
type Pass struct {
	list   []api.Row   // the rows that are left, if all are in memory
	reader runs.Reader // else what reads them
	spilt  bool
}

// EndInOne says that no more rows come, in End's place, and puts them all into
// one run, or leaves them in memory if none had to be written: in more runs
// there would be no going back to a place.
func (s *Sorter) EndInOne() Pass {
	if len(s.runs) == 0 {
		return Pass{list: s.rest()}
	}
	s.spillAll()
	s.mergeToFan()
	if len(s.runs) > 1 {
		s.mergeFirst(len(s.runs))
	}
	return Pass{reader: *s.runs[0].Reader(), spilt: true}
}

func (s *Sorter) rest() []api.Row {
	var list []api.Row
	for {
		row, ok := s.Next()
		if !ok {
			return list
		}
		list = append(list, row)
	}
}

// Next is the next row; false, if there is none.
func (p *Pass) Next() (api.Row, bool) {
	if p.spilt {
		record, ok := p.reader.Next()
		return record.Row, ok
	}
	if len(p.list) == 0 {
		return nil, false
	}
	row := p.list[0]
	p.list = p.list[1:]
	return row, true
}
