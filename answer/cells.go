package answer

import (
	"slices"

	"caisson/accum"
	"caisson/api"
)

// cells tell what a row has, by the number of a dimension or of a measure.
type cells struct {
	text    func(dim int) (string, bool)                        // false: the row's set is without that dimension
	some    func(meas int) bool                                 // is there a number of that measure?
	numbers [api.ItemGrouping + 1]func(index int) (int64, bool) // by the kinds of picks; false: it is no int64
}

// cellsOf are those of a row of the set that has these dimensions.
func cellsOf(row api.Row, dims []int) cells {
	parts := row.Acc.Parts
	return cells{
		text: func(dim int) (string, bool) {
			at := slices.Index(dims, dim)
			if at < 0 {
				return "", false
			}
			return row.Key[at], true
		},
		some: func(meas int) bool { return meas < len(parts) && parts[meas].Any },
		numbers: [...]func(index int) (int64, bool){
			api.ItemCount: func(int) (int64, bool) { return int64(row.Acc.Count), true },
			api.ItemSum:   func(meas int) (int64, bool) { return accum.Value(parts[meas].Sum) },
			api.ItemMin:   func(meas int) (int64, bool) { return parts[meas].Min, true },
			api.ItemMax:   func(meas int) (int64, bool) { return parts[meas].Max, true },
			api.ItemGrouping: func(dim int) (int64, bool) {
				if slices.Contains(dims, dim) {
					return 0, true
				}
				return 1, true
			},
		},
	}
}

// all are the cells of some picks; false, if one of them can't be told.
func (c cells) all(picks []api.Pick) ([]api.Cell, bool) {
	l := []api.Cell{}
	for _, p := range picks {
		cell, ok := c.tell(p)
		if !ok {
			return nil, false
		}
		l = append(l, cell)
	}
	return l, true
}

// tell is the cell of a pick; false, if it is a number that is no int64.
func (c cells) tell(p api.Pick) (api.Cell, bool) {
	switch p.Kind {
	case api.ItemColumn:
		if text, ok := c.text(p.Index); ok {
			return api.Cell{Kind: api.Text, Text: text}, true
		}
		return api.Cell{}, true
	case api.ItemSum, api.ItemMin, api.ItemMax:
		if !c.some(p.Index) {
			return api.Cell{}, true
		}
		// What is there of a measure is a number as the others are, which are always there.
		fallthrough
	default:
		n, ok := c.numbers[p.Kind](p.Index)
		return api.Cell{Kind: api.Int, Int: n}, ok
	}
}
