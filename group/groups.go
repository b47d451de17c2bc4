package group

import (
	"slices"
	"strconv"

	"caisson/accum"
	"caisson/api"
)

// groups are rows by their keys.
type groups struct {
	none   api.Acc        // what is kept of a group ahead of all that is put into it
	places map[string]int // by a key as one text: where its row stands
	rows   []api.Row
}

func newGroups(none api.Acc) *groups {
	return &groups{none: none, places: map[string]int{}}
}

// row is that of a key, a new one if need be. It stays in its place till the next one is asked for.
func (g *groups) row(key []string) *api.Row {
	text := joined(key...)
	at, ok := g.places[text]
	if !ok {
		at = len(g.rows)
		g.places[text] = at
		g.rows = append(g.rows, api.Row{Key: slices.Clone(key), Acc: g.none})
	}
	return &g.rows[at]
}

// merge puts what is kept of some facts to a key's row. The first one that comes is merged with an accumulator without Parts, which leaves it as it is, but apart from it.
func (g *groups) merge(key []string, acc api.Acc) {
	row := g.row(key)
	row.Acc = accum.Merge(row.Acc, acc)
}

// inOrder are the rows by rising keys.
func (g *groups) inOrder() []api.Row {
	slices.SortFunc(g.rows, func(a, b api.Row) int { return Compare(a.Key, b.Key) })
	return g.rows
}

// joined is texts as one. Each has its length ahead: no two lists are joined to the same.
func joined(texts ...string) string {
	all := []byte{}
	for _, s := range texts {
		all = append(strconv.AppendInt(all, int64(len(s)), 10), ' ')
		all = append(all, s...)
	}
	return string(all)
}
