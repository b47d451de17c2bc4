package bind

import (
	"strings"

	"caisson/api"
	"caisson/parse"
	"caisson/sets"
)

// table is the only table's name.
const table = "facts"

// column is a dimension, or a measure, by its number.
type column struct {
	meas  bool
	index int
}

// columns are a schema's by their names.
type columns map[string]column

func columnsOf(s api.Schema) columns {
	c := columns{}
	for i, name := range s.Dims {
		c[name] = column{index: i}
	}
	for i, name := range s.Meas {
		c[name] = column{meas: true, index: i}
	}
	return c
}

// find is the number of a column, which must be a measure, or a dimension.
func (c columns) find(name string, meas bool) (int, api.Errno) {
	found, ok := c[name]
	if !ok {
		return 0, api.ErrName
	}
	if found.meas != meas {
		return 0, api.ErrKind
	}
	return found.index, api.OK
}

// picks are the items of a query by their columns' numbers.
func (c columns) picks(items []api.Item) ([]api.Pick, api.Errno) {
	l := []api.Pick{}
	for _, i := range items {
		p := api.Pick{Kind: i.Kind}
		if i.Kind != api.ItemCount {
			index, e := c.find(i.Column, !asksDim(i.Kind))
			if e != api.OK {
				return nil, e
			}
			p.Index = index
		}
		l = append(l, p)
	}
	return l, api.OK
}

// asksDim tells whether an item of that kind has a dimension for its column.
func asksDim(kind int) bool { return kind == api.ItemColumn || kind == api.ItemGrouping }

// texts are the items' own.
func texts(items []api.Item) []string {
	l := []string{}
	for _, i := range items {
		// How an item is written parse alone knows: it shows a query that has no more than that one.
		text, _ := parse.Show(api.Query{Items: []api.Item{i}, Table: table})
		l = append(l, strings.TrimSuffix(strings.TrimPrefix(text, "SELECT "), " FROM "+table))
	}
	return l
}

// expand are the sets that a query's elements stand for.
func (c columns) expand(dims []string, groups []api.Group) ([]int, api.Errno) {
	for _, g := range groups {
		// An element that may be has either Columns or Sets.
		for _, names := range append([][]string{g.Columns}, g.Sets...) {
			if e := c.allDims(names); e != api.OK {
				return nil, e
			}
		}
	}
	return sets.Expand(dims, groups)
}

// allDims tells what is wrong with names that must be dimensions'.
func (c columns) allDims(names []string) api.Errno {
	for _, name := range names {
		if _, e := c.find(name, false); e != api.OK {
			return e
		}
	}
	return api.OK
}
