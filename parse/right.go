package parse

import (
	"caisson/api"
	"caisson/lex"
)

// mostNodes is how many nodes a condition has at most.
const mostNodes = 2048

// nodes goes over the nodes of conditions, each at each of its places, till so many are left: conditions that are handed in may go round in a ring.
type nodes struct{ left int }

// one counts a node; it tells whether there may be one more.
func (n *nodes) one() bool {
	n.left--
	return n.left >= 0
}

// right tells whether a condition may be, of that depth at most.
func (n *nodes) right(c *api.Cond, deep int) bool {
	if deep == 0 || !n.one() {
		return false
	}
	switch c.Kind {
	case api.CondAnd, api.CondOr:
		return isBare(c) && c.Left != nil && c.Right != nil && n.right(c.Left, deep-1) && n.right(c.Right, deep-1)
	case api.CondNot:
		return isBare(c) && c.Left != nil && c.Right == nil && n.right(c.Left, deep-1)
	}
	return c.Left == nil && c.Right == nil && rightTest(c)
}

// isBare tells whether a node has nothing of a test.
func isBare(c *api.Cond) bool { return c.Column == "" && c.Op == 0 && len(c.Values) == 0 }

func rightTest(c *api.Cond) bool {
	switch c.Kind {
	case api.CondCompare:
		return lex.IsName(c.Column) && api.Equal <= c.Op && c.Op <= api.AtLeast && rightList(c.Values, 1, 1, rightValue)
	case api.CondIn:
		return lex.IsName(c.Column) && c.Op == 0 && rightList(c.Values, 1, api.MaxValues, rightValue)
	}
	return false
}

func rightValue(v api.Value) bool {
	if v.IsText {
		return len(v.Text) <= api.MaxText && v.Int == 0
	}
	return v.Text == ""
}

// rightList tells whether a list has so many elements, each as it may be.
func rightList[T any](l []T, least, most int, one func(v T) bool) bool {
	if len(l) < least || len(l) > most {
		return false
	}
	for _, v := range l {
		if !one(v) {
			return false
		}
	}
	return true
}

func rightItems(l []api.Item) bool { return rightList(l, 1, api.MaxItems, rightItem) }

func rightItem(i api.Item) bool {
	if i.Kind == api.ItemCount {
		return i.Column == ""
	}
	return api.ItemColumn <= i.Kind && i.Kind <= api.ItemGrouping && lex.IsName(i.Column)
}

func rightGroups(q api.Query) bool {
	if !q.Grouped {
		return len(q.Groups) == 0
	}
	return rightList(q.Groups, 1, api.MaxItems, rightGroup)
}

func rightGroup(g api.Group) bool {
	switch g.Kind {
	case api.GroupPlain:
		return len(g.Sets) == 0 && rightList(g.Columns, 1, 1, lex.IsName)
	case api.GroupRollup, api.GroupCube:
		return len(g.Sets) == 0 && rightList(g.Columns, 1, api.MaxItems, lex.IsName)
	case api.GroupSets:
		return len(g.Columns) == 0 && rightList(g.Sets, 1, api.MaxSets, rightSet)
	}
	return false
}

func rightSet(names []string) bool { return rightList(names, 0, api.MaxItems, lex.IsName) }
