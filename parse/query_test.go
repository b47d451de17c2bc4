package parse

import (
	"fmt"
	"strings"
	"testing"

	"caisson/api"
)

func text(s string) api.Value { return api.Value{IsText: true, Text: s} }

func number(n int64) api.Value { return api.Value{Int: n} }

func and(a, b *api.Cond) *api.Cond { return &api.Cond{Kind: api.CondAnd, Left: a, Right: b} }

func or(a, b *api.Cond) *api.Cond { return &api.Cond{Kind: api.CondOr, Left: a, Right: b} }

func not(a *api.Cond) *api.Cond { return &api.Cond{Kind: api.CondNot, Left: a} }

func compare(name string, op int, v api.Value) *api.Cond {
	return &api.Cond{Kind: api.CondCompare, Column: name, Op: op, Values: []api.Value{v}}
}

func in(name string, l ...api.Value) *api.Cond {
	return &api.Cond{Kind: api.CondIn, Column: name, Values: l}
}

// a test that is short
func short(name string) *api.Cond { return compare(name, api.Equal, number(1)) }

// the same thing so many times
func many[T any](n int, v T) []T {
	l := []T{}
	for range n {
		l = append(l, v)
	}
	return l
}

// a query with all kinds of things; each one is new
func whole() api.Query {
	return api.Query{
		Items: []api.Item{{Kind: 1, Column: "a"}, {Kind: 2}, {Kind: 3, Column: "m"}, {Kind: 4, Column: "m"}, {Kind: 5, Column: "m"}, {Kind: 6, Column: "a"}},
		Table: "facts",
		Where: and(compare("a", api.Equal, text("x")), or(not(short("m")), in("b", text("y"), number(-7)))),
		Groups: []api.Group{
			{Kind: api.GroupPlain, Columns: []string{"a"}},
			{Kind: api.GroupRollup, Columns: []string{"a", "b"}},
			{Kind: api.GroupCube, Columns: []string{"c"}},
			{Kind: api.GroupSets, Sets: [][]string{{"a", "b"}, {"a"}, {}}},
		},
		Grouped: true,
	}
}

// a query with a condition alone
func where(c *api.Cond) api.Query {
	return api.Query{Items: []api.Item{{Kind: 1, Column: "a"}}, Table: "f", Where: c}
}

// a condition of nodes as in a full tree, whose depth is so much: 2^depth - 1; each of its nodes stands in many places
func full(depth int) *api.Cond {
	c := short("a")
	for range depth - 1 {
		c = and(c, c)
	}
	return c
}

// so many NOTs over it
func nots(n int, c *api.Cond) *api.Cond {
	for range n {
		c = not(c)
	}
	return c
}

// one that goes round in a ring
func ring(kind int) *api.Cond {
	c := &api.Cond{Kind: kind}
	c.Left = c
	if kind != api.CondNot {
		c.Right = c
	}
	return c
}

// what becomes of the whole query, and whether it may be
type change struct {
	what   string
	change func(q *api.Query)
	may    bool
}

// Right tells it of each changed query, and Show says ErrArg of those that may not be.
func checkRight(t *testing.T, changes []change) {
	t.Helper()
	for _, c := range changes {
		q := whole()
		c.change(&q)
		is(t, c.what, Right(q), c.may)
		s, e := Show(q)
		if c.may {
			is(t, c.what+": Show", e == api.OK && s != "" || e == api.ErrLong && s == "", true)
		} else {
			is(t, c.what+": Show", fmt.Sprint(s, int(e)), "1")
		}
	}
}

func TestP102RightItems(t *testing.T) {
	item := func(kind int, column string) func(q *api.Query) {
		return func(q *api.Query) { q.Items[1] = api.Item{Kind: kind, Column: column} }
	}
	items := func(n int) func(q *api.Query) {
		return func(q *api.Query) { q.Items = many(n, api.Item{Kind: 1, Column: "a"}) }
	}
	table := func(name string) func(q *api.Query) { return func(q *api.Query) { q.Table = name } }
	most := strings.Repeat("x", 32)
	checkRight(t, []change{
		{"as it is", func(q *api.Query) {}, true},
		{"no items", items(0), false}, {"nil items", func(q *api.Query) { q.Items = nil }, false},
		{"one item", items(1), true}, {"16 items", items(16), true}, {"17 items", items(17), false}, {"very many items", items(1 << 20), false},
		{"kind 0", item(0, "a"), false}, {"kind 7", item(7, "a"), false}, {"kind -1", item(-1, "a"), false}, {"kind 0, no column", item(0, ""), false}, {"kind 7, no column", item(7, ""), false},
		{"column", item(1, "a"), true}, {"column without a name", item(1, ""), false}, {"column of a keyword", item(1, "Sum"), false}, {"column of 32 bytes", item(1, most), true},
		{"column of 33 bytes", item(1, most+"x"), false}, {"column with a blank", item(1, "a "), false}, {"column that begins with a digit", item(1, "1a"), false}, {"column in quotes", item(1, "'a'"), false},
		{"count", item(2, ""), true}, {"count of a column", item(2, "a"), false}, {"count of *", item(2, "*"), false},
		{"sum of nothing", item(3, ""), false}, {"min of nothing", item(4, ""), false}, {"max of nothing", item(5, ""), false}, {"grouping of nothing", item(6, ""), false},
		{"sum", item(3, "b"), true}, {"min", item(4, "b"), true}, {"max", item(5, "b"), true}, {"grouping", item(6, "b"), true}, {"grouping of *", item(6, "*"), false},
		{"no table", table(""), false}, {"table of a keyword", table("sets"), false}, {"table of 32 bytes", table(most), true}, {"table of 33 bytes", table(most + "x"), false},
		{"table of a million bytes", table(strings.Repeat("x", 1<<20)), false}, {"two tables", table("f,g"), false},
		{"nothing", func(q *api.Query) { *q = api.Query{} }, false},
	})
}

func TestP102RightTests(t *testing.T) {
	cond := func(c *api.Cond) func(q *api.Query) { return func(q *api.Query) { q.Where.Right = c } }
	test := func(kind int, name string, op int, l []api.Value) func(q *api.Query) {
		return cond(&api.Cond{Kind: kind, Column: name, Op: op, Values: l})
	}
	value := func(v api.Value) func(q *api.Query) { return cond(in("a", number(1), v)) }
	one := []api.Value{number(1)}
	most := strings.Repeat("\xff", 64)
	checkRight(t, []change{
		{"no condition", func(q *api.Query) { q.Where = nil }, true},
		{"op 0", test(4, "a", 0, one), false}, {"op 1", test(4, "a", 1, one), true}, {"op 6", test(4, "a", 6, one), true}, {"op 7", test(4, "a", 7, one), false}, {"op -1", test(4, "a", -1, one), false},
		{"comparison without a name", test(4, "", 1, one), false}, {"comparison of a keyword", test(4, "by", 1, one), false},
		{"comparison with none", test(4, "a", 1, nil), false}, {"with an empty list", test(4, "a", 1, []api.Value{}), false}, {"with two", test(4, "a", 1, many(2, number(1))), false},
		{"IN", test(5, "a", 0, one), true}, {"IN with an op", test(5, "a", 1, one), false}, {"IN with op -1", test(5, "a", -1, one), false}, {"IN without a name", test(5, "", 0, one), false},
		{"IN of a keyword", test(5, "IN", 0, one), false}, {"IN none", test(5, "a", 0, nil), false}, {"IN 64", test(5, "a", 0, many(64, text("x"))), true}, {"IN 65", test(5, "a", 0, many(65, text("x"))), false},
		{"kind 0", test(0, "a", 1, one), false}, {"kind 6", test(6, "a", 1, one), false}, {"kind -1", test(-1, "a", 0, one), false}, {"kind 6 of nothing", test(6, "", 0, nil), false}, {"kind 0 of nothing", cond(&api.Cond{}), false},
		{"text of 64 bytes", value(text(most)), true}, {"text of 65 bytes", value(text(most + "x")), false}, {"empty text", value(text("")), true}, {"text of quotes", value(text("''\n\x00")), true},
		{"text with a number", value(api.Value{IsText: true, Text: "x", Int: 1}), false}, {"number with a text", value(api.Value{Text: "x", Int: 1}), false}, {"a text that is none", value(api.Value{Text: "x"}), false},
		{"a zero value", value(api.Value{}), true}, {"least number", value(number(-1 << 63)), true}, {"greatest number", value(number(1<<63 - 1)), true},
		{"a comparison's wrong value", cond(compare("a", 1, text(most+"x"))), false}, {"an IN's first value", cond(in("a", api.Value{Text: "x"}, number(1))), false},
	})
}

func TestP102RightNodes(t *testing.T) {
	cond := func(c *api.Cond) func(q *api.Query) { return func(q *api.Query) { q.Where.Right = c } }
	changes := []change{}
	add := func(what string, c *api.Cond, may bool) {
		changes = append(changes, change{what, cond(c), may})
		changes = append(changes, change{what + ", alone", func(q *api.Query) { q.Where = c }, may || c == nil})
		changes = append(changes, change{what + ", deeper", cond(or(short("a"), not(c))), may})
		changes = append(changes, change{what + ", at the left", func(q *api.Query) { q.Where.Left = c }, may})
	}
	x, y := short("x"), short("y")
	add("nothing", nil, false)
	for _, kind := range []int{api.CondAnd, api.CondOr} {
		add("both", &api.Cond{Kind: kind, Left: x, Right: y}, true)
		add("one twice", &api.Cond{Kind: kind, Left: x, Right: x}, true)
		add("left alone", &api.Cond{Kind: kind, Left: x}, false)
		add("right alone", &api.Cond{Kind: kind, Right: y}, false)
		add("neither", &api.Cond{Kind: kind}, false)
		add("both and a column", &api.Cond{Kind: kind, Left: x, Right: y, Column: "a"}, false)
		add("both and an op", &api.Cond{Kind: kind, Left: x, Right: y, Op: 1}, false)
		add("both and op -1", &api.Cond{Kind: kind, Left: x, Right: y, Op: -1}, false)
		add("both and a value", &api.Cond{Kind: kind, Left: x, Right: y, Values: []api.Value{{}}}, false)
		add("both and an empty list", &api.Cond{Kind: kind, Left: x, Right: y, Values: []api.Value{}}, true)
	}
	add("NOT", not(x), true)
	add("NOT of both", &api.Cond{Kind: api.CondNot, Left: x, Right: y}, false)
	add("NOT of the right", &api.Cond{Kind: api.CondNot, Right: y}, false)
	add("NOT of nothing", &api.Cond{Kind: api.CondNot}, false)
	add("NOT and a column", &api.Cond{Kind: api.CondNot, Left: x, Column: "a"}, false)
	add("NOT and an op", &api.Cond{Kind: api.CondNot, Left: x, Op: 2}, false)
	add("NOT and a value", &api.Cond{Kind: api.CondNot, Left: x, Values: many(1, number(0))}, false)
	for _, kind := range []int{api.CondCompare, api.CondIn} {
		c := api.Cond{Kind: kind, Column: "a", Op: (5 - kind) * api.Less, Values: many(1, number(0))}
		left, right := c, c
		left.Left, right.Right = x, x
		add("a test", &c, true)
		add("a test with a left", &left, false)
		add("a test with a right", &right, false)
	}
	add("NOT of a wrong one", not(compare("a", 0, number(1))), false)
	add("AND of a wrong left", and(in("a"), x), false)
	add("AND of a wrong right", and(x, in("a")), false)
	add("OR of a wrong right", or(x, in("")), false)
	checkRight(t, changes)
}

func TestP102RightBounds(t *testing.T) {
	may := func(what string, c *api.Cond, want bool) {
		t.Helper()
		is(t, what, Right(where(c)), want)
		_, e := Show(where(c))
		is(t, what+": Show", e == api.ErrArg, !want)
	}
	may("32 deep", nots(31, short("a")), true)
	may("33 deep", nots(32, short("a")), false)
	may("very deep", nots(1<<20, short("a")), false)
	left, right := short("a"), short("a")
	for range 31 {
		left, right = and(left, short("b")), or(short("b"), right)
	}
	may("32 to the left", left, true)
	may("33 to the left", and(left, short("b")), false)
	may("32 to the right", right, true)
	may("33 to the right", and(short("b"), right), false)
	may("deep at the left alone", and(nots(30, short("a")), short("b")), true)
	may("too deep at the right alone", and(short("a"), nots(31, short("b"))), false)

	may("2047 nodes", full(11), true)
	may("2048 nodes", not(full(11)), true)
	may("2049 nodes", nots(2, full(11)), false)
	may("2048 nodes, otherwise", or(not(full(10)), full(10)), true)
	may("2049 nodes, otherwise", or(full(10), and(short("a"), full(10))), false)
	may("4095 nodes", full(12), false)
	may("2^31 nodes and more", full(32), false)
	may("2^32 nodes and more", full(33), false)

	may("a ring of NOT", ring(api.CondNot), false)
	may("a ring of AND", ring(api.CondAnd), false)
	may("a ring of OR at the right", or(short("a"), ring(api.CondOr)), false)
	back := and(short("a"), not(nil))
	back.Right.Left = back
	may("a ring of two", back, false)
}

func TestP102RightGroups(t *testing.T) {
	group := func(g api.Group) func(q *api.Query) { return func(q *api.Query) { q.Groups[2] = g } }
	groups := func(n int) func(q *api.Query) {
		return func(q *api.Query) { q.Groups = many(n, api.Group{Kind: 1, Columns: []string{"a"}}) }
	}
	names := func(n int) []string { return many(n, "a") }
	none := [][]string{}
	checkRight(t, []change{
		{"not grouped", func(q *api.Query) { q.Grouped, q.Groups = false, nil }, true},
		{"not grouped, an empty list", func(q *api.Query) { q.Grouped, q.Groups = false, []api.Group{} }, true},
		{"not grouped, with groups", func(q *api.Query) { q.Grouped = false }, false},
		{"grouped by nothing", func(q *api.Query) { q.Groups = nil }, false},
		{"one", groups(1), true}, {"16", groups(16), true}, {"17", groups(17), false}, {"very many", groups(1 << 20), false},
		{"kind 0", group(api.Group{Kind: 0, Columns: names(1)}), false}, {"kind 5", group(api.Group{Kind: 5, Columns: names(1)}), false}, {"kind -1", group(api.Group{Kind: -1}), false}, {"nothing", group(api.Group{}), false},
		{"a name", group(api.Group{Kind: 1, Columns: names(1), Sets: none}), true}, {"no name", group(api.Group{Kind: 1}), false}, {"two names", group(api.Group{Kind: 1, Columns: names(2)}), false},
		{"a wrong name", group(api.Group{Kind: 1, Columns: []string{"max"}}), false}, {"a name with sets", group(api.Group{Kind: 1, Columns: names(1), Sets: [][]string{{}}}), false}, {"a set for a name", group(api.Group{Kind: 1, Sets: [][]string{{"a"}}}), false},
		{"a rollup of none", group(api.Group{Kind: 2}), false}, {"of one", group(api.Group{Kind: 2, Columns: names(1)}), true}, {"of 16", group(api.Group{Kind: 2, Columns: names(16)}), true}, {"of 17", group(api.Group{Kind: 2, Columns: names(17)}), false},
		{"with sets", group(api.Group{Kind: 2, Columns: names(1), Sets: [][]string{nil}}), false}, {"of a wrong name", group(api.Group{Kind: 2, Columns: []string{"a", "b", ""}}), false},
		{"a cube of none", group(api.Group{Kind: 3, Columns: []string{}}), false}, {"a cube of 16", group(api.Group{Kind: 3, Columns: names(16), Sets: none}), true}, {"a cube of 17", group(api.Group{Kind: 3, Columns: names(17)}), false},
		{"a cube with sets", group(api.Group{Kind: 3, Columns: names(1), Sets: [][]string{{"a"}}}), false}, {"a cube of a wrong name", group(api.Group{Kind: 3, Columns: []string{"a-b"}}), false},
		{"no sets", group(api.Group{Kind: 4}), false}, {"an empty list of sets", group(api.Group{Kind: 4, Sets: none}), false}, {"one empty set", group(api.Group{Kind: 4, Sets: [][]string{nil}, Columns: []string{}}), true},
		{"64 sets", group(api.Group{Kind: 4, Sets: many(64, names(1))}), true}, {"65 sets", group(api.Group{Kind: 4, Sets: many(65, names(1))}), false}, {"a set of 16", group(api.Group{Kind: 4, Sets: [][]string{names(16)}}), true},
		{"a set of 17", group(api.Group{Kind: 4, Sets: [][]string{names(16), names(17)}}), false}, {"sets and columns", group(api.Group{Kind: 4, Sets: [][]string{names(1)}, Columns: names(1)}), false},
		{"a wrong name in a set", group(api.Group{Kind: 4, Sets: [][]string{names(1), {"a", "'"}}}), false}, {"columns for sets", group(api.Group{Kind: 4, Columns: names(1)}), false},
	})
}

// shown is what Show tells.
func shown(q api.Query) string {
	s, e := Show(q)
	return fmt.Sprintf("%s /%d", s, int(e))
}

func TestP102Show(t *testing.T) {
	example := whole()
	example.Items = []api.Item{{Kind: 1, Column: "a"}, {Kind: 2}, {Kind: 3, Column: "m"}}
	example.Where = and(compare("a", api.Equal, text("x")), or(compare("b", api.Unequal, text("y")), not(compare("m", api.Less, number(-1)))))
	is(t, "the example", shown(example), "SELECT a, COUNT(*), SUM(m) FROM facts WHERE a = 'x' AND (b <> 'y' OR NOT m < -1) GROUP BY a, ROLLUP(a, b), CUBE(c), GROUPING SETS((a, b), (a), ()) /0")
	is(t, "the whole", shown(whole()), "SELECT a, COUNT(*), SUM(m), MIN(m), MAX(m), GROUPING(a) FROM facts WHERE a = 'x' AND (NOT m = 1 OR b IN ('y', -7)) GROUP BY a, ROLLUP(a, b), CUBE(c), GROUPING SETS((a, b), (a), ()) /0")
	is(t, "the least", shown(where(nil)), "SELECT a FROM f /0")
	is(t, "nothing", shown(api.Query{}), " /1")
	a, b, c := short("a"), short("b"), short("c")
	for _, x := range []struct {
		c    *api.Cond
		text string
	}{
		{in("a", text("x"), text("y")), "a IN ('x', 'y')"},
		{in("a", number(0)), "a IN (0)"},
		{in("a", text(""), number(-5), text("it's '")), "a IN ('', -5, 'it''s ''')"},
		{compare("a", api.Equal, text("5")), "a = '5'"},
		{compare("a", api.Unequal, number(5)), "a <> 5"},
		{compare("a", api.Less, number(-1<<63)), "a < -9223372036854775808"},
		{compare("a", api.AtMost, number(1<<63-1)), "a <= 9223372036854775807"},
		{compare("a", api.Greater, text("\x00 \xff")), "a > '\x00 \xff'"},
		{compare("a", api.AtLeast, number(-10)), "a >= -10"},
		{or(or(a, b), c), "a = 1 OR b = 1 OR c = 1"},
		{or(a, or(b, c)), "a = 1 OR (b = 1 OR c = 1)"},
		{and(and(a, b), c), "a = 1 AND b = 1 AND c = 1"},
		{and(a, and(b, c)), "a = 1 AND (b = 1 AND c = 1)"},
		{or(and(a, b), c), "a = 1 AND b = 1 OR c = 1"},
		{or(a, and(b, c)), "a = 1 OR b = 1 AND c = 1"},
		{and(or(a, b), c), "(a = 1 OR b = 1) AND c = 1"},
		{and(a, or(b, c)), "a = 1 AND (b = 1 OR c = 1)"},
		{not(a), "NOT a = 1"},
		{not(in("a", number(1))), "NOT a IN (1)"},
		{not(not(a)), "NOT NOT a = 1"},
		{not(and(a, b)), "NOT (a = 1 AND b = 1)"},
		{not(or(a, b)), "NOT (a = 1 OR b = 1)"},
		{and(not(a), not(b)), "NOT a = 1 AND NOT b = 1"},
		{or(not(a), not(b)), "NOT a = 1 OR NOT b = 1"},
		{or(or(a, and(b, c)), and(a, b)), "a = 1 OR b = 1 AND c = 1 OR a = 1 AND b = 1"},
		{or(a, and(b, or(c, a))), "a = 1 OR b = 1 AND (c = 1 OR a = 1)"},
		{or(and(a, and(b, c)), or(a, b)), "a = 1 AND (b = 1 AND c = 1) OR (a = 1 OR b = 1)"},
		{not(not(or(a, not(and(b, c))))), "NOT NOT (a = 1 OR NOT (b = 1 AND c = 1))"},
		{and(a, a), "a = 1 AND a = 1"},
	} {
		is(t, x.text, shown(where(x.c)), "SELECT a FROM f WHERE "+x.text+" /0")
	}
	is(t, "an empty set alone", shown(api.Query{Items: []api.Item{{Kind: 2}}, Table: "f", Grouped: true, Groups: []api.Group{{Kind: 4, Sets: [][]string{nil}}}}), "SELECT COUNT(*) FROM f GROUP BY GROUPING SETS(()) /0")
}

// A text of 4096 bytes is shown, a longer one isn't.
func TestP102ShowLong(t *testing.T) {
	sized := func(size int) api.Query {
		l := many(60, text(strings.Repeat("x", 62)))
		l = append(l, text(""), text(""))
		q := where(in("a", l...))
		s := queryText(q)
		for i := 60; i < 62; i++ {
			l[i].Text = strings.Repeat("y", min(64, size-len(s)))
			s = queryText(q)
		}
		return q
	}
	s, e := Show(sized(4096))
	is(t, "4096 bytes", fmt.Sprint(len(s), int(e)), "4096 0")
	is(t, "its query", Same(sized(4096), must(Parse(s))), true)
	is(t, "4097 bytes", shown(sized(4097)), " /45")
	is(t, "quotes", shown(where(in("a", many(64, text(strings.Repeat("'", 64)))...))), " /45")
	is(t, "as long as may be", shown(where(full(11))), " /45")
	q := whole()
	q.Groups = many(16, api.Group{Kind: 4, Sets: many(64, many(16, strings.Repeat("x", 32)))})
	is(t, "many sets", shown(q), " /45")
}

// must is the query of a text that has one.
func must(q api.Query, f api.Fault) api.Query {
	if f.Code != api.OK {
		panic(f)
	}
	return q
}

func same(t *testing.T, what string, a, b api.Query, want bool) {
	t.Helper()
	is(t, what, Same(a, b), want)
	is(t, what+", the other way", Same(b, a), want)
}

func TestP103Same(t *testing.T) {
	same(t, "nothing", api.Query{}, api.Query{}, true)
	same(t, "the whole", whole(), whole(), true)
	same(t, "the whole and nothing", whole(), api.Query{}, false)
	for _, c := range []change{
		{"an item's kind", func(q *api.Query) { q.Items[2].Kind = 4 }, false},
		{"an item's column", func(q *api.Query) { q.Items[0].Column = "b" }, false},
		{"an item in capitals", func(q *api.Query) { q.Items[0].Column = "A" }, false},
		{"an item less", func(q *api.Query) { q.Items = q.Items[:5] }, false},
		{"an item more", func(q *api.Query) { q.Items = append(q.Items, api.Item{}) }, false},
		{"two items turned", func(q *api.Query) { q.Items[0], q.Items[1] = q.Items[1], q.Items[0] }, false},
		{"table", func(q *api.Query) { q.Table = "fact" }, false},
		{"no condition", func(q *api.Query) { q.Where = nil }, false},
		{"a node's kind", func(q *api.Query) { q.Where.Kind = api.CondOr }, false},
		{"a node's left", func(q *api.Query) { q.Where.Left = nil }, false},
		{"a node's right", func(q *api.Query) { q.Where.Right = nil }, false},
		{"both turned", func(q *api.Query) { q.Where.Left, q.Where.Right = q.Where.Right, q.Where.Left }, false},
		{"a test's column", func(q *api.Query) { q.Where.Left.Column = "b" }, false},
		{"a test's op", func(q *api.Query) { q.Where.Left.Op = 2 }, false},
		{"a text", func(q *api.Query) { q.Where.Left.Values[0].Text = "" }, false},
		{"a number", func(q *api.Query) { q.Where.Right.Right.Values[1].Int++ }, false},
		{"a text that is none", func(q *api.Query) { q.Where.Left.Values[0].IsText = false }, false},
		{"a value less", func(q *api.Query) { q.Where.Right.Right.Values = q.Where.Right.Right.Values[:1] }, false},
		{"a value more", func(q *api.Query) { q.Where.Left.Values = many(2, q.Where.Left.Values[0]) }, false},
		{"deep down", func(q *api.Query) { q.Where.Right.Left.Left.Column = "n" }, false},
		{"more below a test", func(q *api.Query) { q.Where.Right.Left.Left.Right = short("a") }, false},
		{"a column of an AND", func(q *api.Query) { q.Where.Column = "a" }, false},
		{"an op of an AND", func(q *api.Query) { q.Where.Op = 1 }, false},
		{"a value of an AND", func(q *api.Query) { q.Where.Values = []api.Value{{}} }, false},
		{"an empty list of an AND", func(q *api.Query) { q.Where.Values = []api.Value{} }, true},
		{"not grouped", func(q *api.Query) { q.Grouped = false }, false},
		{"no groups", func(q *api.Query) { q.Groups = nil }, false},
		{"a group less", func(q *api.Query) { q.Groups = q.Groups[:3] }, false},
		{"a group's kind", func(q *api.Query) { q.Groups[2].Kind = 2 }, false},
		{"a group's column", func(q *api.Query) { q.Groups[1].Columns[1] = "c" }, false},
		{"a group's columns, fewer", func(q *api.Query) { q.Groups[1].Columns = q.Groups[1].Columns[:1] }, false},
		{"a set's name", func(q *api.Query) { q.Groups[3].Sets[0][1] = "c" }, false},
		{"a set's names, fewer", func(q *api.Query) { q.Groups[3].Sets[0] = []string{"a"} }, false},
		{"a set less", func(q *api.Query) { q.Groups[3].Sets = q.Groups[3].Sets[:2] }, false},
		{"a set that is nil", func(q *api.Query) { q.Groups[3].Sets[2] = nil }, true},
		{"sets of a name", func(q *api.Query) { q.Groups[0].Sets = [][]string{nil} }, false},
		{"no sets of a name", func(q *api.Query) { q.Groups[0].Sets = [][]string{} }, true},
	} {
		q := whole()
		c.change(&q)
		same(t, c.what, whole(), q, c.may)
		same(t, c.what+", with itself", q, q, true)
	}
}

// Of a query of more than 4096 nodes it is false, whatever it is held against.
func TestP103SameBounds(t *testing.T) {
	for _, c := range []struct {
		what string
		make func() *api.Cond
		want bool
	}{
		{"4095 nodes", func() *api.Cond { return full(12) }, true},
		{"4096 nodes", func() *api.Cond { return not(full(12)) }, true},
		{"4097 nodes", func() *api.Cond { return nots(2, full(12)) }, false},
		{"4096 deep", func() *api.Cond { return nots(4095, short("a")) }, true},
		{"4097 deep", func() *api.Cond { return nots(4096, short("a")) }, false},
		{"a million deep", func() *api.Cond { return nots(1<<20, short("a")) }, false},
		{"very many nodes", func() *api.Cond { return full(64) }, false},
		{"a ring of NOT", func() *api.Cond { return ring(api.CondNot) }, false},
		{"a ring of AND", func() *api.Cond { return ring(api.CondAnd) }, false},
		{"a ring of no kind", func() *api.Cond { return ring(9) }, false},
	} {
		one := c.make()
		same(t, c.what, where(one), where(c.make()), c.want)
		same(t, c.what+", with itself", where(one), where(one), c.want)
		same(t, c.what+", with less", where(one), where(one.Left), false)
		same(t, c.what+", with nothing", where(one), where(nil), false)
	}
	// A node that stands in several places is the same as several that are alike.
	a := short("a")
	same(t, "in two places", where(and(a, a)), where(and(short("a"), short("a"))), true)
	same(t, "wrong ones", where(&api.Cond{}), where(&api.Cond{}), true)
	same(t, "one node and none", where(&api.Cond{}), where(nil), false)
	long := where(in("a", many(1<<16, text("x"))...))
	same(t, "very many values", long, where(in("a", many(1<<16, text("x"))...)), true)
}

// No call changes what it is handed.
func TestR3Kept(t *testing.T) {
	q, want := whole(), dump(whole())
	Right(q)
	Show(q)
	Same(q, whole())
	Same(q, q)
	is(t, "behind all calls", dump(q), want)
}
