package parse

import (
	"slices"

	"caisson/api"
)

// mostSame is of how many nodes queries may be that are held against each other.
const mostSame = 4096

// same tells whether two conditions are the same; nil is one without nodes.
func (n *nodes) same(a, b *api.Cond) bool {
	if a == nil || b == nil {
		return a == b
	}
	return n.one() && sameNode(a, b) && n.same(a.Left, b.Left) && n.same(a.Right, b.Right)
}

// sameNode tells whether two nodes are the same, whatever stands below them.
func sameNode(a, b *api.Cond) bool {
	return a.Kind == b.Kind && a.Column == b.Column && a.Op == b.Op && slices.Equal(a.Values, b.Values)
}

// sameBeside tells whether two queries are the same but for their conditions.
func sameBeside(a, b api.Query) bool {
	return a.Table == b.Table && a.Grouped == b.Grouped && slices.Equal(a.Items, b.Items) && slices.EqualFunc(a.Groups, b.Groups, sameGroup)
}

func sameGroup(a, b api.Group) bool {
	return a.Kind == b.Kind && slices.Equal(a.Columns, b.Columns) && slices.EqualFunc(a.Sets, b.Sets, slices.Equal[[]string])
}
