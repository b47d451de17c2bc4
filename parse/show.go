package parse

import (
	"strconv"
	"strings"

	"caisson/api"
	"caisson/lex"
)

// How strongly conditions hold together; what holds less than it should where it stands has brackets.
const (
	byOr = iota
	byAnd
	byNot
	byItself
)

func queryText(q api.Query) string {
	b := &strings.Builder{}
	b.WriteString("SELECT " + joined(q.Items, itemText) + " FROM " + q.Table)
	if q.Where != nil {
		b.WriteString(" WHERE ")
		showCond(b, q.Where, byOr)
	}
	if q.Grouped {
		b.WriteString(" GROUP BY " + joined(q.Groups, groupText))
	}
	return b.String()
}

// joined are the texts of a list's elements, a comma between each two.
func joined[T any](l []T, text func(v T) string) string {
	texts := make([]string, 0, len(l))
	for _, v := range l {
		texts = append(texts, text(v))
	}
	return strings.Join(texts, ", ")
}

func itemText(i api.Item) string {
	switch i.Kind {
	case api.ItemColumn:
		return i.Column
	case api.ItemCount:
		return calls[i.Kind] + "(*)"
	}
	return calls[i.Kind] + "(" + i.Column + ")"
}

// showCond writes a condition where one stands that holds together so strongly at least.
func showCond(b *strings.Builder, c *api.Cond, least int) {
	if strength(c) >= least {
		showNode(b, c)
		return
	}
	b.WriteString("(")
	showNode(b, c)
	b.WriteString(")")
}

func showNode(b *strings.Builder, c *api.Cond) {
	switch c.Kind {
	case api.CondOr:
		showCond(b, c.Left, byOr)
		b.WriteString(" OR ")
		showCond(b, c.Right, byAnd)
	case api.CondAnd:
		showCond(b, c.Left, byAnd)
		b.WriteString(" AND ")
		showCond(b, c.Right, byNot)
	case api.CondNot:
		b.WriteString("NOT ")
		showCond(b, c.Left, byNot)
	default:
		b.WriteString(testText(c))
	}
}

// strength is how strongly a condition holds together.
func strength(c *api.Cond) int {
	switch c.Kind {
	case api.CondOr:
		return byOr
	case api.CondAnd:
		return byAnd
	case api.CondNot:
		return byNot
	}
	return byItself
}

func testText(c *api.Cond) string {
	if c.Kind == api.CondIn {
		return c.Column + " IN (" + joined(c.Values, valueText) + ")"
	}
	return c.Column + " " + signs[c.Op] + " " + valueText(c.Values[0])
}

func valueText(v api.Value) string {
	if v.IsText {
		return lex.Quote(v.Text)
	}
	return strconv.FormatInt(v.Int, 10)
}

func groupText(g api.Group) string {
	switch g.Kind {
	case api.GroupPlain:
		return g.Columns[0]
	case api.GroupRollup:
		return "ROLLUP" + listText(g.Columns)
	case api.GroupCube:
		return "CUBE" + listText(g.Columns)
	}
	return "GROUPING SETS(" + joined(g.Sets, listText) + ")"
}

func listText(names []string) string { return "(" + strings.Join(names, ", ") + ")" }
