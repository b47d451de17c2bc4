package sets

import (
	"slices"

	"caisson/api"
)

// wrong tells whether an element may not be, whatever its columns are called.
func wrong(g api.Group) bool {
	switch g.Kind {
	case api.GroupPlain:
		return len(g.Columns) != 1
	case api.GroupRollup, api.GroupCube:
		return len(g.Columns) == 0
	}
	return g.Kind != api.GroupSets
}

// strange tells whether a column of an element is none of dims.
func strange(dims []string, g api.Group) bool {
	unknown := func(name string) bool { return !slices.Contains(dims, name) }
	if g.Kind != api.GroupSets {
		return slices.ContainsFunc(g.Columns, unknown)
	}
	return slices.ContainsFunc(g.Sets, func(names []string) bool { return slices.ContainsFunc(names, unknown) })
}

// beyond stands for each number of sets that is too many: the true ones may be greater than any int.
const beyond = api.MaxSets + 1

// size is how many sets the list of groups has, or beyond.
func size(groups []api.Group) int {
	n := 1
	for _, g := range groups {
		n = min(n*elementSize(g), beyond)
	}
	return n
}

// elementSize is how many sets an element has, or beyond.
func elementSize(g api.Group) int {
	n := 1
	switch g.Kind {
	case api.GroupRollup:
		n = len(g.Columns) + 1
	case api.GroupCube:
		for range g.Columns {
			n = min(2*n, beyond)
		}
	case api.GroupSets:
		n = len(g.Sets)
	}
	return min(n, beyond)
}

// elementSets are the sets of an element that has not too many.
func elementSets(dims []string, g api.Group) []int {
	switch g.Kind {
	case api.GroupRollup:
		return rollup(own(dims, g.Columns))
	case api.GroupCube:
		return cube(own(dims, g.Columns))
	case api.GroupSets:
		l := []int{}
		for _, names := range g.Sets {
			l = append(l, union(own(dims, names)...))
		}
		return l
	}
	return own(dims, g.Columns)
}
