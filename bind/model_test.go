package bind

import (
	"fmt"
	"slices"
	"strings"
	"testing"

	"caisson/api"
	"caisson/parse"
	"caisson/sets"
)

// chance draws numbers, the same ones for the same seed.
type chance uint64

func (c *chance) below(n int) int {
	*c = *c*6364136223846793005 + 1442695040888963407
	return int(uint64(*c) >> 33 % uint64(n))
}

func (c *chance) one(l ...string) string { return l[c.below(len(l))] }

// name is mostly one of great's dimensions, or of its measures, if such a one is meant.
func (c *chance) name(meas bool) string {
	switch {
	case c.below(60) == 0:
		return c.one("x", "A", "aa", "facts")
	case (c.below(60) == 0) != meas:
		return c.one("m", "n", "o", "p")
	}
	return c.one("a", "b", "c", "d", "e", "f")
}

func (c *chance) item() api.Item {
	kind := c.below(6) + 1
	if kind == api.ItemCount {
		return api.Item{Kind: kind}
	}
	return api.Item{Kind: kind, Column: c.name(kind != api.ItemColumn && kind != api.ItemGrouping)}
}

func (c *chance) value(text bool) api.Value {
	if text != (c.below(40) == 0) {
		return api.Value{IsText: true, Text: c.one("", "p", "q", "pp", "r")}
	}
	return api.Value{Int: int64(c.below(5) - 2)}
}

func (c *chance) cond(deep int) *api.Cond {
	if deep > 1 && c.below(4) > 0 {
		kind := c.below(3) + 1
		cond := &api.Cond{Kind: kind, Left: c.cond(deep - 1)}
		if kind != api.CondNot {
			cond.Right = c.cond(deep - 1)
		}
		return cond
	}
	meas := c.below(2) == 0
	cond := &api.Cond{Kind: api.CondCompare, Column: c.name(meas), Op: c.below(6) + 1}
	many := 1
	if c.below(3) == 0 {
		cond.Kind, cond.Op, many = api.CondIn, 0, c.below(4)+1
	}
	for range many {
		cond.Values = append(cond.Values, c.value(!meas))
	}
	return cond
}

func (c *chance) names(least int) []string {
	l := []string{}
	for range c.below(4) + least {
		l = append(l, c.name(false))
	}
	return l
}

func (c *chance) group() api.Group {
	g := api.Group{Kind: c.below(4) + 1}
	switch g.Kind {
	case api.GroupPlain:
		g.Columns = []string{c.name(false)}
	case api.GroupSets:
		for range c.below(4) + 1 {
			g.Sets = append(g.Sets, c.names(0))
		}
	default:
		g.Columns = c.names(1)
	}
	return g
}

// query makes one that may be, with something wrong in some.
func (c *chance) query() api.Query {
	q := api.Query{Table: "facts"}
	if c.below(40) == 0 {
		q.Table = c.one("f", "Facts", "a")
	}
	for range c.below(4) + 1 {
		q.Items = append(q.Items, c.item())
	}
	if c.below(3) > 0 {
		q.Where = c.cond(c.below(5) + 1)
	}
	if q.Grouped = c.below(4) > 0; q.Grouped {
		for range c.below(4) + 1 {
			q.Groups = append(q.Groups, c.group())
		}
	}
	return q
}

// model says what Bind does, of great: it writes down all that is wrong, as the promise goes, and the first of it is told.
type model struct{ wrong []string }

// column tells a column's number; of the wrong kind, or of no such one something is written down.
func (m *model) column(name string, meas bool) int {
	at := strings.Index("abcdefmnop", name)
	if at < 0 || len(name) != 1 {
		m.wrong = append(m.wrong, noName)
		return 0
	}
	if (at >= 6) != meas {
		m.wrong = append(m.wrong, badKind)
	}
	return at % 6
}

// where is a condition as dump tells its test.
func (m *model) where(c *api.Cond) string {
	switch c.Kind {
	case api.CondNot:
		return "(3 " + m.where(c.Left) + ")"
	case api.CondAnd, api.CondOr:
		left := m.where(c.Left)
		return fmt.Sprintf("(%d %s %s)", c.Kind, left, m.where(c.Right))
	}
	s := fmt.Sprint("(", c.Kind)
	meas := len(c.Column) == 1 && strings.Contains("mnop", c.Column)
	s += fmt.Sprintf(" %s%d", map[bool]string{false: "dim", true: "meas"}[meas], m.column(c.Column, meas))
	if c.Kind == api.CondCompare {
		s += fmt.Sprint(" op", c.Op)
	}
	for _, v := range c.Values {
		if v.IsText == meas {
			m.wrong = append(m.wrong, badKind)
		}
		if meas {
			s += fmt.Sprintf(" %d", v.Int)
		} else {
			s += fmt.Sprintf(" %q", v.Text)
		}
	}
	return s + ")"
}

func (m *model) told(q api.Query) string {
	if q.Table != "facts" {
		return noName
	}
	picks, texts, asked, where := []string{}, []string{}, []int{}, "-"
	for _, i := range q.Items {
		index := 0
		if i.Kind == api.ItemColumn || i.Kind == api.ItemGrouping {
			index = m.column(i.Column, false)
			asked = append(asked, 1<<index)
		} else if i.Kind != api.ItemCount {
			index = m.column(i.Column, true)
		}
		picks = append(picks, fmt.Sprintf("{%d %d}", i.Kind, index))
		text := []string{"", "", "COUNT(*", "SUM(", "MIN(", "MAX(", "GROUPING("}[i.Kind] + i.Column
		if i.Kind != api.ItemColumn {
			text += ")"
		}
		texts = append(texts, fmt.Sprintf("%q", text))
	}
	if q.Where != nil {
		where = m.where(q.Where)
	}
	for _, g := range q.Groups {
		for _, name := range slices.Concat(append(slices.Clone(g.Sets), g.Columns)...) {
			m.column(name, false)
		}
	}
	list, e := sets.Expand(great.Dims, q.Groups)
	if e == api.ErrMany {
		m.wrong = append(m.wrong, tooMany)
	}
	for _, one := range asked {
		if !slices.ContainsFunc(list, func(set int) bool { return set&one == one }) {
			m.wrong = append(m.wrong, noGroup)
		}
	}
	if len(m.wrong) > 0 {
		return m.wrong[0]
	}
	return fmt.Sprintf("[%s] [%s] %s %v", strings.Join(picks, " "), strings.Join(texts, " "), where, list)
}

// Queries by chance, with something wrong, or several things, or nothing.
func TestP122Model(t *testing.T) {
	many := map[string]int{}
	for seed := range 60000 {
		c := chance(seed)
		q := c.query()
		want := (&model{}).told(q)
		if !strings.HasPrefix(want, "error") {
			many["right"]++
		}
		many[want]++
		text, _ := parse.Show(q)
		is(t, text, told(Bind(great, q)), want)
	}
	for _, what := range []string{"right", noName, badKind, noGroup, tooMany} {
		is(t, fmt.Sprint("enough of ", what, ": ", many[what]), many[what] > 200, true)
	}
}

// Of two queries that print as one text Bind says one thing.
func TestP124Printed(t *testing.T) {
	for seed := range 20000 {
		c := chance(seed)
		q := c.query()
		text, _ := parse.Show(q)
		again, _ := parse.Parse(text)
		first, e := Bind(great, q)
		second, f := Bind(great, again)
		is(t, text, told(second, f), told(first, e))
		is(t, text+": Key", Key(second) == Key(first), true)
	}
}

// true or false of a condition as it is written, for a fact of great
func meant(c *api.Cond, f api.Fact) bool {
	switch c.Kind {
	case api.CondAnd:
		return meant(c.Left, f) && meant(c.Right, f)
	case api.CondOr:
		return meant(c.Left, f) || meant(c.Right, f)
	case api.CondNot:
		return !meant(c.Left, f)
	}
	at, any := strings.Index("abcdefmnop", c.Column), false
	for _, v := range c.Values {
		order := 0
		if at < 6 {
			order = strings.Compare(f.Dims[at], v.Text)
		} else if n := f.Meas[at-6]; n < v.Int {
			order = -1
		} else if n > v.Int {
			order = 1
		}
		any = any || c.Kind == api.CondCompare && want(c.Op, order) || c.Kind == api.CondIn && order == 0
	}
	return any
}

// fact makes one of great.
func (c *chance) fact() api.Fact {
	f := api.Fact{}
	for range 6 {
		f.Dims = append(f.Dims, c.value(true).Text)
	}
	for range 4 {
		f.Meas = append(f.Meas, int64(c.below(5)-2))
	}
	return f
}

// A bound condition holds for just the facts for which the written one does.
func TestP123Model(t *testing.T) {
	held, all := 0, 0
	for seed := range 20000 {
		c := chance(seed)
		q := api.Query{Items: []api.Item{{Kind: api.ItemCount}}, Table: "facts", Where: c.cond(seed%6 + 1)}
		b, e := Bind(great, q)
		if e != api.OK {
			continue
		}
		text, _ := parse.Show(q)
		for range 20 {
			f := c.fact()
			is(t, fmt.Sprint(text, " of ", f), Holds(b.Where, f), meant(q.Where, f))
			all++
			if meant(q.Where, f) {
				held++
			}
		}
	}
	is(t, fmt.Sprint("enough held: ", held, " of ", all), all > 100000 && held > all/4 && held < all*3/4, true)
}

// test makes any: nodes may lack what they should have, have what they shouldn't, or be of no kind.
func (c *chance) test(deep int, meas bool) *api.Test {
	if c.below(12) == 0 {
		return nil
	}
	t := &api.Test{Kind: c.below(7), Index: c.below(9) - 1, Op: c.below(8)}
	t.Meas = meas && c.below(3) == 0
	for range c.below(3) {
		t.Texts = append(t.Texts, c.value(true).Text)
	}
	for range c.below(3) {
		t.Ints = append(t.Ints, int64(c.below(5)-2))
	}
	if deep > 1 && (t.Kind < api.CondCompare || c.below(4) == 0) {
		t.Left, t.Right = c.test(deep-1, meas), c.test(deep-1, meas)
	}
	return t
}

// asked are the dimensions and measures that stand in a test, each as often as it does.
func asked(t *api.Test) (dims []int, meas int) {
	if t == nil {
		return nil, 0
	}
	if t.Kind == api.CondCompare || t.Kind == api.CondIn {
		if t.Meas {
			return nil, 1
		}
		return []int{t.Index}, 0
	}
	left, m := asked(t.Left)
	right, n := asked(t.Right)
	return append(left, right...), m + n
}

func TestP123ReadsModel(t *testing.T) {
	for seed := range 20000 {
		c := chance(seed)
		test := c.test(seed%6+1, seed%2 == 0)
		dims, meas := asked(test)
		set := 0
		for d := range 6 {
			if slices.Contains(dims, d) {
				set += []int{1, 2, 4, 8, 16, 32}[d]
			}
		}
		is(t, dump(test), read(Reads(test)), read(set, meas > 0))
	}
}

// other is a fact that has the same texts in a set's dimensions, perhaps others elsewhere, or none there, and perhaps other measures.
func (c *chance) other(f api.Fact, set int) api.Fact {
	g := c.fact()
	for d := range g.Dims {
		if set>>d&1 == 1 {
			g.Dims[d] = f.Dims[d]
		}
	}
	for n := len(g.Dims); n > 0 && set>>(n-1)&1 == 0 && c.below(2) == 0; n-- {
		g.Dims = g.Dims[:n-1]
	}
	g.Meas = g.Meas[:c.below(5)]
	return g
}

// What holds hangs on the dimensions of Reads alone, if no measure is asked.
func TestP124Reads(t *testing.T) {
	held := 0
	for seed := range 20000 {
		c := chance(seed)
		test := c.test(seed%6+1, false)
		set, meas := Reads(test)
		is(t, dump(test)+": a measure", meas, false)
		for range 10 {
			f := c.fact()
			g := c.other(f, set)
			is(t, fmt.Sprint(dump(test), " of ", f, " and ", g), Holds(test, g), Holds(test, f))
			if Holds(test, f) {
				held++
			}
		}
	}
	is(t, fmt.Sprint("enough held: ", held), held > 20000, true)
}

// NOT NOT of a test holds just if that does; NOT of an AND is the OR of NOTs, and the other way round.
func TestP124Not(t *testing.T) {
	for seed := range 20000 {
		c := chance(seed)
		a, b := c.test(seed%5+1, true), c.test(seed%4+1, true)
		if a == nil || b == nil {
			continue
		}
		for range 5 {
			f := c.fact()
			what := fmt.Sprint(dump(a), " and ", dump(b), " of ", f)
			is(t, "NOT NOT: "+what, Holds(not(not(a)), f), Holds(a, f))
			is(t, "NOT: "+what, Holds(not(a), f), !Holds(a, f))
			is(t, "NOT of AND: "+what, Holds(not(and(a, b)), f), Holds(or(not(a), not(b)), f))
			is(t, "NOT of OR: "+what, Holds(not(or(a, b)), f), Holds(and(not(a), not(b)), f))
		}
	}
}
