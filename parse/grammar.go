package parse

import (
	"strconv"

	"caisson/api"
)

func (r *reader) query() api.Query {
	q := api.Query{}
	r.needAll("SELECT")
	q.Items = listed(r, api.MaxItems, r.item)
	r.needAll("FROM")
	q.Table = r.name()
	if r.takes(says("WHERE")) {
		q.Where = r.or()
	}
	if r.takes(says("GROUP")) {
		r.needAll("BY")
		q.Grouped = true
		q.Groups = listed(r, api.MaxItems, r.element)
	}
	r.need(of(api.End))
	return q
}

func (r *reader) item() api.Item {
	if r.sees(of(api.Name)) {
		return api.Item{Kind: api.ItemColumn, Column: r.name()}
	}
	i := api.Item{Kind: calls.place(r.need(among(calls)).Text)}
	r.needAll("(")
	if i.Kind == api.ItemCount {
		r.needAll("*")
	} else {
		i.Column = r.name()
	}
	r.needAll(")")
	return i
}

func (r *reader) or() *api.Cond { return r.chain(api.CondOr, "OR", r.and) }

func (r *reader) and() *api.Cond { return r.chain(api.CondAnd, "AND", r.not) }

// chain reads conditions with a keyword between each two, as nodes to the left.
func (r *reader) chain(kind int, keyword string, one func() *api.Cond) *api.Cond {
	c := one()
	for r.takes(says(keyword)) {
		c = &api.Cond{Kind: kind, Left: c, Right: one()}
	}
	return c
}

func (r *reader) not() *api.Cond {
	if r.takes(says("NOT")) {
		return &api.Cond{Kind: api.CondNot, Left: r.not()}
	}
	if r.takes(says("(")) {
		c := r.or()
		r.needAll(")")
		return c
	}
	return r.test()
}

func (r *reader) test() *api.Cond {
	c := &api.Cond{Column: r.name()}
	if r.takes(says("IN")) {
		c.Kind = api.CondIn
		r.needAll("(")
		c.Values = listed(r, api.MaxValues, r.value)
		r.needAll(")")
		return c
	}
	c.Kind = api.CondCompare
	c.Op = signs.place(r.need(among(signs)).Text)
	c.Values = []api.Value{r.value()}
	return c
}

func (r *reader) value() api.Value {
	if r.sees(of(api.String)) {
		return api.Value{IsText: true, Text: r.need(of(api.String)).Text}
	}
	sign := ""
	if r.takes(says("-")) {
		sign = "-"
	}
	w := r.need(of(api.Number))
	n, err := strconv.ParseInt(sign+w.Text, 10, 64)
	if err != nil {
		giveUp(api.ErrLong, w.At)
	}
	return api.Value{Int: n}
}

func (r *reader) element() api.Group {
	if r.sees(of(api.Name)) {
		return api.Group{Kind: api.GroupPlain, Columns: []string{r.name()}}
	}
	if r.takes(says("ROLLUP")) {
		return api.Group{Kind: api.GroupRollup, Columns: r.list()}
	}
	if r.takes(says("CUBE")) {
		return api.Group{Kind: api.GroupCube, Columns: r.list()}
	}
	r.needAll("GROUPING", "SETS", "(")
	sets := listed(r, api.MaxSets, r.set)
	r.needAll(")")
	return api.Group{Kind: api.GroupSets, Sets: sets}
}

func (r *reader) set() []string {
	if r.sees(of(api.Name)) {
		return []string{r.name()}
	}
	r.needAll("(")
	if r.takes(says(")")) {
		return nil
	}
	return r.rest()
}

func (r *reader) list() []string {
	r.needAll("(")
	return r.rest()
}

// rest is what stands in a list behind its bracket.
func (r *reader) rest() []string {
	names := listed(r, api.MaxItems, r.name)
	r.needAll(")")
	return names
}

// depth is that of a condition that was read: each of its nodes stands in one place.
func depth(c *api.Cond) int {
	if c == nil {
		return 0
	}
	return 1 + max(depth(c.Left), depth(c.Right))
}
