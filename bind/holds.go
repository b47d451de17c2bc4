package bind

import (
	"cmp"
	"slices"

	"caisson/api"
	"caisson/sets"
)

// mostNodes is how many nodes a test has at most.
const mostNodes = 4096

// tooGreat tells whether a test has more nodes than may be.
func tooGreat(t *api.Test) bool { return nodesLeft(t, mostNodes) < 0 }

// nodesLeft is how many of so many nodes are left when those of a test are taken off, each at each of its places. It stops below 0: a test that is handed in may go round in a ring.
func nodesLeft(t *api.Test, many int) int {
	if t == nil || many < 0 {
		return many
	}
	return nodesLeft(t.Right, nodesLeft(t.Left, many-1))
}

// holds tells whether a test that is not too great holds for a fact.
func holds(t *api.Test, f api.Fact) bool {
	if t == nil {
		return false
	}
	switch t.Kind {
	case api.CondAnd:
		return holds(t.Left, f) && holds(t.Right, f)
	case api.CondOr:
		return holds(t.Left, f) || holds(t.Right, f)
	case api.CondNot:
		return t.Left != nil && !holds(t.Left, f)
	}
	if t.Meas {
		return holdsOf(t, f.Meas, t.Ints)
	}
	return holdsOf(t, f.Dims, t.Texts)
}

// holdsOf tells whether a test that asks a column holds for a fact that has these, with these values.
func holdsOf[T cmp.Ordered](t *api.Test, has, values []T) bool {
	if t.Index < 0 || t.Index >= len(has) || len(values) == 0 {
		return false
	}
	switch t.Kind {
	case api.CondCompare:
		return isAs(t.Op, cmp.Compare(has[t.Index], values[0]))
	case api.CondIn:
		return slices.Contains(values, has[t.Index])
	}
	return false
}

// isAs tells whether what was compared is as a sign says.
func isAs(op, compared int) bool {
	switch op {
	case api.Equal:
		return compared == 0
	case api.Unequal:
		return compared != 0
	case api.Less:
		return compared < 0
	case api.AtMost:
		return compared <= 0
	case api.Greater:
		return compared > 0
	case api.AtLeast:
		return compared >= 0
	}
	return false
}

// reads is what a test asks that is not too great.
func reads(t *api.Test) (int, bool) {
	if t == nil {
		return 0, false
	}
	if !asks(t.Kind) {
		left, leftMeas := reads(t.Left)
		right, rightMeas := reads(t.Right)
		return left | right, leftMeas || rightMeas
	}
	if t.Meas {
		return 0, true
	}
	return sets.Of(t.Index), false
}
