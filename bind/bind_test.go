package bind

import (
	"fmt"
	"slices"
	"strings"
	"testing"

	"caisson/api"
	"caisson/parse"
)

func is(t *testing.T, what string, got, want any) {
	t.Helper()
	if g, w := fmt.Sprint(got), fmt.Sprint(want); g != w {
		t.Errorf("%.300s: %.400s, want %.400s", what, g, w)
	}
}

// small is the document's schema, great one that has all that may be.
var (
	small = api.Schema{Dims: []string{"a", "b"}, Meas: []string{"m", "n"}}
	great = api.Schema{Dims: strings.Split("abcdef", ""), Meas: strings.Split("mnop", "")}
)

// query is that of a text.
func query(t *testing.T, text string) api.Query {
	t.Helper()
	q, f := parse.Parse(text)
	if f.Code != api.OK {
		t.Fatalf("%s: %v", text, f)
	}
	return q
}

// dump is a test with all that it has, in brackets: its kind, what it asks, its sign, its values, and what stands below it.
func dump(t *api.Test) string {
	if t == nil {
		return "-"
	}
	s := fmt.Sprint(t.Kind)
	if t.Meas || t.Index != 0 || len(t.Texts)+len(t.Ints) > 0 {
		s += fmt.Sprintf(" %s%d", map[bool]string{false: "dim", true: "meas"}[t.Meas], t.Index)
	}
	if t.Op != 0 {
		s += fmt.Sprintf(" op%d", t.Op)
	}
	for _, text := range t.Texts {
		s += fmt.Sprintf(" %q", text)
	}
	for _, n := range t.Ints {
		s += fmt.Sprintf(" %d", n)
	}
	if t.Left != nil || t.Right != nil {
		s += " " + dump(t.Left)
	}
	if t.Right != nil {
		s += " " + dump(t.Right)
	}
	return "(" + s + ")"
}

// told is what Bind says: the bound query, or the error's number; both, if something stands beside an error.
func told(b api.Bound, e api.Errno) string {
	if e != api.OK && b.Picks == nil && b.Names == nil && b.Where == nil && b.Sets == nil {
		return fmt.Sprintf("error %d", int(e))
	}
	s := fmt.Sprintf("%v %q %s %v", b.Picks, b.Names, dump(b.Where), b.Sets)
	if e != api.OK {
		s += fmt.Sprintf(" error %d", int(e))
	}
	return s
}

const (
	badSchema = "error 49"
	badArg    = "error 1"
	noName    = "error 42"
	badKind   = "error 43"
	noGroup   = "error 44"
	tooMany   = "error 46"
)

// check holds each text of a query against what is told of it.
func check(t *testing.T, s api.Schema, cases [][2]string) {
	t.Helper()
	for _, c := range cases {
		is(t, c[0], told(Bind(s, query(t, c[0]))), c[1])
	}
}

// checkWhere does so of conditions alone.
func checkWhere(t *testing.T, s api.Schema, cases [][2]string) {
	t.Helper()
	for _, c := range cases {
		want := c[1]
		if !strings.HasPrefix(want, "error") {
			want = `[{2 0}] ["COUNT(*)"] ` + want + " [0]"
		}
		is(t, c[0], told(Bind(s, query(t, "SELECT COUNT(*) FROM facts WHERE "+c[0]))), want)
	}
}

func TestExamples(t *testing.T) {
	check(t, small, [][2]string{
		{"SELECT b, SUM(n) FROM facts WHERE a = 'x' GROUP BY b", `[{1 1} {3 1}] ["b" "SUM(n)"] (4 dim0 op1 "x") [2]`},
		{"SELECT COUNT(*) FROM facts", `[{2 0}] ["COUNT(*)"] - [0]`},
		{"SELECT m FROM facts GROUP BY a", badKind},
		{"SELECT SUM(a) FROM facts", badKind},
		{"SELECT a FROM facts", noGroup},
		{"SELECT x FROM facts", noName},
		{"SELECT a FROM t GROUP BY a", noName},
		{"SELECT a FROM facts WHERE m = 'x' GROUP BY a", badKind},
	})
}

// some are so many names, which are all different.
func some(n int, letter string) []string {
	l := []string{}
	for i := range n {
		l = append(l, fmt.Sprint(letter, i))
	}
	return l
}

func TestP121Sizes(t *testing.T) {
	for dims := range 10 {
		for meas := range 10 {
			want := api.ErrSchema
			if 1 <= dims && dims <= 6 && 1 <= meas && meas <= 4 {
				want = api.OK
			}
			is(t, fmt.Sprint(dims, " and ", meas), Check(api.Schema{Dims: some(dims, "d"), Meas: some(meas, "m")}), want)
		}
	}
	is(t, "none", Check(api.Schema{}), api.ErrSchema)
	is(t, "many dimensions", Check(api.Schema{Dims: some(100000, "d"), Meas: some(1, "m")}), api.ErrSchema)
	is(t, "many measures", Check(api.Schema{Dims: some(1, "d"), Meas: some(100000, "m")}), api.ErrSchema)
}

func TestP121Names(t *testing.T) {
	long := strings.Repeat("x", 32)
	for name, want := range map[string]api.Errno{
		"a": api.OK, "_": api.OK, "_9": api.OK, "Z": api.OK, "facts": api.OK, "FACTS": api.OK, "sums": api.OK, "x1y2": api.OK, long: api.OK,
		"": api.ErrSchema, " ": api.ErrSchema, "1": api.ErrSchema, "1a": api.ErrSchema, "a b": api.ErrSchema, "a ": api.ErrSchema, " a": api.ErrSchema,
		"a-b": api.ErrSchema, "a\x00": api.ErrSchema, "é": api.ErrSchema, "'a'": api.ErrSchema, "*": api.ErrSchema, long + "x": api.ErrSchema, strings.Repeat("x", 1<<16): api.ErrSchema,
		"by": api.ErrSchema, "SUM": api.ErrSchema, "Count": api.ErrSchema, "iN": api.ErrSchema, "grouping": api.ErrSchema, "sets": api.ErrSchema,
	} {
		for place := range 4 {
			dims, meas := []string{"d0", "d1"}, []string{"m0", "m1"}
			if place < 2 {
				dims[place] = name
			} else {
				meas[place-2] = name
			}
			is(t, fmt.Sprintf("%.40q at %d", name, place), Check(api.Schema{Dims: dims, Meas: meas}), want)
		}
	}
}

// No two names may be the same, wherever they stand; letters may be others.
func TestP121Twice(t *testing.T) {
	is(t, "as many as may be", Check(great), api.OK)
	all := slices.Concat(great.Dims, great.Meas)
	for i := range all {
		for j := range i {
			l := slices.Clone(all)
			l[i] = l[j]
			is(t, fmt.Sprint(l), Check(api.Schema{Dims: l[:6], Meas: l[6:]}), api.ErrSchema)
			l[i] = strings.ToUpper(l[j])
			is(t, fmt.Sprint(l), Check(api.Schema{Dims: l[:6], Meas: l[6:]}), api.OK)
		}
	}
}

func TestP122Items(t *testing.T) {
	check(t, great, [][2]string{
		{"SELECT COUNT(*), COUNT(*) FROM facts", `[{2 0} {2 0}] ["COUNT(*)" "COUNT(*)"] - [0]`},
		{"SELECT sum ( m ), Sum(n),SUM(o), sum(p) FROM facts", `[{3 0} {3 1} {3 2} {3 3}] ["SUM(m)" "SUM(n)" "SUM(o)" "SUM(p)"] - [0]`},
		{"SELECT min(p), MAX(o), MAX(m), max(p), MIN(m), COUNT(*) FROM facts", `[{4 3} {5 2} {5 0} {5 3} {4 0} {2 0}] ["MIN(p)" "MAX(o)" "MAX(m)" "MAX(p)" "MIN(m)" "COUNT(*)"] - [0]`},
		{"SELECT f, a, c, a FROM facts GROUP BY a, c, f", `[{1 5} {1 0} {1 2} {1 0}] ["f" "a" "c" "a"] - [37]`},
		{"SELECT grouping(f), b, Grouping(b), GROUPING(e) FROM facts GROUP BY CUBE(b), f, e", `[{6 5} {1 1} {6 1} {6 4}] ["GROUPING(f)" "b" "GROUPING(b)" "GROUPING(e)"] - [50 48]`},
		{"SELECT " + strings.Repeat("d,", 15) + "MAX(n) FROM facts GROUP BY d", "[" + strings.Repeat("{1 3} ", 15) + "{5 1}] [" + strings.Repeat(`"d" `, 15) + `"MAX(n)"] - [8]`},
	})
	for item, want := range map[string]string{
		"x": noName, "A": noName, "SUM(x)": noName, "MIN(x)": noName, "MAX(M)": noName, "GROUPING(x)": noName, "facts": noName,
		"m": badKind, "p": badKind, "GROUPING(m)": badKind, "SUM(a)": badKind, "MIN(f)": badKind, "MAX(b)": badKind,
	} {
		check(t, great, [][2]string{
			{"SELECT " + item + " FROM facts GROUP BY ROLLUP(a, b)", want},
			{"SELECT a, COUNT(*), SUM(m), " + item + " FROM facts GROUP BY ROLLUP(a, b)", want},
			{"SELECT " + item + ", a, COUNT(*), SUM(m) FROM facts GROUP BY ROLLUP(a, b)", want},
		})
	}
	// item by item: what is first wrong
	check(t, great, [][2]string{
		{"SELECT a, m, x FROM facts GROUP BY a", badKind},
		{"SELECT a, x, m FROM facts GROUP BY a", noName},
		{"SELECT SUM(a), GROUPING(x) FROM facts", badKind},
		{"SELECT GROUPING(x), SUM(a) FROM facts", noName},
	})
}

// Names may be long, begin with others, or look like what a query's text has beside them.
func TestP122Names(t *testing.T) {
	long, m := strings.Repeat("x", 32), strings.Repeat("y", 32)
	s := api.Schema{Dims: []string{"facts", "FROM_", "SELECT_", long, "x"}, Meas: []string{"FROM_facts", m}}
	check(t, s, [][2]string{
		{"SELECT facts, FROM_, SELECT_, SUM(FROM_facts), x FROM facts GROUP BY CUBE(facts, x), SELECT_, FROM_",
			`[{1 0} {1 1} {1 2} {3 0} {1 4}] ["facts" "FROM_" "SELECT_" "SUM(FROM_facts)" "x"] - [23 7 22 6]`},
		{"SELECT grouping(" + long + "), max(" + m + ") FROM facts GROUP BY " + long, `[{6 3} {5 1}] ["GROUPING(` + long + `)" "MAX(` + m + `)"] - [8]`},
	})
}

func TestP122Where(t *testing.T) {
	checkWhere(t, great, [][2]string{
		{"a = 'x'", `(4 dim0 op1 "x")`},
		{"f <> ''", `(4 dim5 op2 "")`},
		{"m < -9223372036854775808", `(4 meas0 op3 -9223372036854775808)`},
		{"p <= 0", `(4 meas3 op4 0)`},
		{"n > 9223372036854775807", `(4 meas1 op5 9223372036854775807)`},
		{"o >= -1", `(4 meas2 op6 -1)`},
		{"c IN ('z', '', 'y', 'z')", `(5 dim2 "z" "" "y" "z")`},
		{"n in (3, -2, 3)", `(5 meas1 3 -2 3)`},
		{"a = 'it''s' and b > 'b'", `(1 (4 dim0 op1 "it's") (4 dim1 op5 "b"))`},
		{"a = '1' or n = 2 and not e in ('3')", `(2 (4 dim0 op1 "1") (1 (4 meas1 op1 2) (3 (5 dim4 "3"))))`},
		{"not (a = '1' or not m = 2) and d = '3' and c = '4'", `(1 (1 (3 (2 (4 dim0 op1 "1") (3 (4 meas0 op1 2)))) (4 dim3 op1 "3")) (4 dim2 op1 "4"))`},
		{"a IN ('" + strings.Repeat("x", 64) + "'" + strings.Repeat(", 'y'", 63) + ")", `(5 dim0 "` + strings.Repeat("x", 64) + `"` + strings.Repeat(` "y"`, 63) + ")"},
	})
	checkWhere(t, great, [][2]string{
		{"x = 1", noName},
		{"x = '1'", noName},
		{"A = 'x'", noName},
		{"facts IN ('x')", noName},
		{"a = 1", badKind},
		{"f <> 0", badKind},
		{"m = '1'", badKind},
		{"p >= ''", badKind},
		{"a IN (1)", badKind},
		{"a IN ('1', 2)", badKind},
		{"a IN (1, '2')", badKind},
		{"a IN ('1', '2', 3, '4')", badKind},
		{"n IN ('1')", badKind},
		{"n IN (1, 2, '3')", badKind},
		{"n IN ('1', 2)", badKind},
		// from left to right: what is first wrong
		{"a = 1 AND x = 1", badKind},
		{"x = 1 AND a = 1", noName},
		{"a = 'x' OR NOT m = 'x' OR x IN (1)", badKind},
		{"a = 'x' OR NOT x = 'x' OR m IN ('1')", noName},
		{"(a = 'x' AND (b = 'x' OR m = '1')) AND x = 1", badKind},
		{"(a = 'x' AND (b = 'x' OR y = '1')) OR NOT m = ''", noName},
		{"a = 'x' AND NOT (NOT x = 1 OR a = 2)", noName},
	})
}

// all64 are all sets, falling, as they are told.
func all64() string {
	l := []int{}
	for set := 63; set >= 0; set-- {
		l = append(l, set)
	}
	return fmt.Sprint(l)
}

func TestP122Groups(t *testing.T) {
	for _, c := range [][2]string{
		{"a", "[1]"},
		{"f, a", "[33]"},
		{"ROLLUP(c, a)", "[5 4 0]"},
		{"CUBE(a, b)", "[3 1 2 0]"},
		{"GROUPING SETS((), (a, b), f, (c, c))", "[0 3 32 4]"},
		{"c, ROLLUP(a, b)", "[7 5 4]"},
		{"CUBE(f, e, d, c, b, a)", all64()},
		{"x", noName},
		{"A", noName},
		{"m", badKind},
		{"a, p", badKind},
		{"ROLLUP(a, x)", noName},
		{"ROLLUP(a, n)", badKind},
		{"CUBE(x, a)", noName},
		{"CUBE(o, a)", badKind},
		{"GROUPING SETS((a), (), (b, x))", noName},
		{"GROUPING SETS((a), (), (b, m))", badKind},
		{"GROUPING SETS(a, m)", badKind},
		// in order: what is first wrong
		{"m, x", badKind},
		{"x, m", noName},
		{"a, ROLLUP(a, x), CUBE(m)", noName},
		{"a, ROLLUP(a, m), CUBE(x)", badKind},
		{"GROUPING SETS((a, x), (m))", noName},
		{"GROUPING SETS((a, m), (x))", badKind},
		{"GROUPING SETS((), m), x", badKind},
		// ahead of too many sets, wherever they stand
		{"CUBE(a, b, c, d, e, f, a)", tooMany},
		{"CUBE(a, b, c), CUBE(a, b, c), ROLLUP(d)", tooMany},
		{"CUBE(a, b, c, d, e, f, a), x", noName},
		{"CUBE(a, b, c, d, e, f, a), m", badKind},
		{"CUBE(a, b, c, d, e, f, m)", badKind},
		{"CUBE(a, b, c, d, e, f, x)", noName},
	} {
		want := c[1]
		if !strings.HasPrefix(want, "error") {
			want = `[{2 0}] ["COUNT(*)"] - ` + want
		}
		is(t, c[0], told(Bind(great, query(t, "SELECT COUNT(*) FROM facts GROUP BY "+c[0]))), want)
	}
}

func TestP122Ungrouped(t *testing.T) {
	for item, pick := range map[string]string{"b": "{1 1}", "GROUPING(b)": "{6 1}"} {
		for groups, want := range map[string]string{
			"": noGroup, " GROUP BY a": noGroup, " GROUP BY a, CUBE(c, d)": noGroup, " GROUP BY GROUPING SETS((), (a, c))": noGroup,
			" GROUP BY b": "[2]", " GROUP BY ROLLUP(a, b)": "[3 1 0]", " GROUP BY GROUPING SETS((), (a), b)": "[0 1 2]", " GROUP BY GROUPING SETS((a, b), ())": "[3 0]",
		} {
			if want != noGroup {
				want = fmt.Sprintf("[%s {2 0}] [%q %q] - %s", pick, item, "COUNT(*)", want)
			}
			check(t, great, [][2]string{{"SELECT " + item + ", COUNT(*) FROM facts" + groups, want}})
		}
	}
	check(t, great, [][2]string{
		{"SELECT a, b FROM facts GROUP BY a", noGroup},
		{"SELECT SUM(n), MIN(o), COUNT(*) FROM facts GROUP BY a", `[{3 1} {4 2} {2 0}] ["SUM(n)" "MIN(o)" "COUNT(*)"] - [1]`},
		{"SELECT a, f FROM facts GROUP BY GROUPING SETS(a, f)", `[{1 0} {1 5}] ["a" "f"] - [1 32]`},
	})
}

// The table has one name, in small letters, whatever columns are called.
func TestP122Table(t *testing.T) {
	for _, table := range []string{"f", "fact", "factss", "FACTS", "Facts", "a", "m", "_"} {
		check(t, small, [][2]string{{"SELECT COUNT(*) FROM " + table, noName}})
	}
	s := api.Schema{Dims: []string{"facts"}, Meas: []string{"m"}}
	check(t, s, [][2]string{{"SELECT facts FROM facts GROUP BY facts", `[{1 0}] ["facts"] - [1]`}, {"SELECT m FROM m", noName}})
}

// Of several things that are wrong that is told which the promise names first: all mixtures, of the first wrong part or the second.
func TestP122First(t *testing.T) {
	parts := [][]string{
		{"a", "x", "m"},
		{"facts", "t"},
		{"", " WHERE x = 1", " WHERE a = 1"},
		{" GROUP BY a, b", " GROUP BY CUBE(a, b, a, b, a, b, a)", " GROUP BY x", " GROUP BY m", " GROUP BY b"},
	}
	wants := [][]string{{"", noName, badKind}, {"", noName}, {"", noName, badKind}, {"", tooMany, noName, badKind, noGroup}}
	for n := range 3 * 2 * 3 * 5 {
		at := []int{n % 3, n / 3 % 2, n / 6 % 3, n / 18}
		text := "SELECT COUNT(*), " + parts[0][at[0]] + " FROM " + parts[1][at[1]] + parts[2][at[2]] + parts[3][at[3]]
		want := `[{2 0} {1 0}] ["COUNT(*)" "a"] - [3]`
		for _, part := range []int{3, 2, 0, 1} {
			if w := wants[part][at[part]]; w != "" {
				want = w
			}
		}
		check(t, small, [][2]string{{text, want}})
		q := query(t, text)
		is(t, text+", of no schema", told(Bind(api.Schema{Dims: some(7, "d"), Meas: some(1, "m")}, q)), badSchema)
		q.Grouped = false
		is(t, text+", which may not be", told(Bind(small, q)), badArg)
		is(t, text+", which may not be, of no schema", told(Bind(api.Schema{}, q)), badSchema)
	}
}

// What no text is, may not be.
func TestP122Arg(t *testing.T) {
	ring := &api.Cond{Kind: api.CondNot}
	ring.Left = ring
	wide := &api.Cond{Kind: api.CondCompare, Column: "a", Op: 1, Values: []api.Value{{IsText: true}}}
	for range 11 {
		wide = &api.Cond{Kind: api.CondAnd, Left: wide, Right: wide}
	}
	for what, do := range map[string]func(q *api.Query){
		"nothing":      func(q *api.Query) { *q = api.Query{} },
		"no items":     func(q *api.Query) { q.Items = nil },
		"no such item": func(q *api.Query) { q.Items[0].Kind = 7 },
		"a count of a": func(q *api.Query) { q.Items[0].Kind = api.ItemCount },
		"no table":     func(q *api.Query) { q.Table = "" },
		"not grouped":  func(q *api.Query) { q.Grouped = false },
		"no element":   func(q *api.Query) { q.Groups = nil },
		"two columns":  func(q *api.Query) { q.Groups[0].Columns = []string{"a", "b"} },
		"no sets":      func(q *api.Query) { q.Groups[0] = api.Group{Kind: api.GroupSets} },
		"no condition": func(q *api.Query) { q.Where = &api.Cond{} },
		"no sign":      func(q *api.Query) { q.Where.Op = 0 },
		"two values":   func(q *api.Query) { q.Where.Values = append(q.Where.Values, q.Where.Values...) },
		"a ring":       func(q *api.Query) { q.Where = ring },
		"4095 nodes":   func(q *api.Query) { q.Where = wide },
		"a name of none": func(q *api.Query) {
			q.Items[0].Column, q.Groups[0].Columns[0] = "", ""
		},
	} {
		q := query(t, "SELECT a FROM facts WHERE b = 'x' GROUP BY a")
		is(t, "ahead of: "+what, told(Bind(small, q)), `[{1 0}] ["a"] (4 dim1 op1 "x") [1]`)
		do(&q)
		is(t, what, told(Bind(small, q)), badArg)
		is(t, what+", of no schema", told(Bind(api.Schema{Dims: small.Dims}, q)), badSchema)
		if q.Table == "facts" {
			q.Table = "t"
		}
		is(t, what+", of another table", told(Bind(small, q)), badArg)
	}
}

// A node that stands in several places is bound at each; it may be told whole, though its text would be too long.
func TestP122Places(t *testing.T) {
	c := &api.Cond{Kind: api.CondIn, Column: "m", Values: []api.Value{{Int: 1}, {Int: 2}}}
	want := "(5 meas0 1 2)"
	for range 9 {
		c = &api.Cond{Kind: api.CondOr, Left: c, Right: c}
		want = "(2 " + want + " " + want + ")"
	}
	q := query(t, "SELECT COUNT(*) FROM facts")
	q.Where = c
	_, e := parse.Show(q)
	is(t, "its text", e, api.ErrLong)
	b, e := Bind(small, q)
	is(t, "as a test", dump(b.Where), want)
	is(t, "as a test, the error", e, api.OK)
	b.Where.Left.Left.Left.Left.Left.Left.Left.Left.Left.Ints[0] = 9
	is(t, "one place changed", strings.Count(dump(b.Where), "9"), 1)
	for range 32 - 10 {
		q.Where = &api.Cond{Kind: api.CondNot, Left: q.Where}
	}
	b, e = Bind(small, q)
	is(t, "as deep as may be", dump(b.Where) == strings.Repeat("(3 ", 22)+want+strings.Repeat(")", 22), true)
	is(t, "as deep as may be, the error", e, api.OK)
}

// What is handed in stays, what is told stays too, and no two lists of it are one.
func TestP122Apart(t *testing.T) {
	text := "SELECT a, SUM(n), b FROM facts WHERE a IN ('x', 'y') AND m IN (1, 2) GROUP BY ROLLUP(a, b), GROUPING SETS((a), b)"
	s, q := api.Schema{Dims: slices.Clone(small.Dims), Meas: slices.Clone(small.Meas)}, query(t, text)
	first, _ := Bind(s, q)
	want := told(first, api.OK)
	is(t, "told", want, `[{1 0} {3 1} {1 1}] ["a" "SUM(n)" "b"] (1 (5 dim0 "x" "y") (5 meas0 1 2)) [3 3 1 3 1 2]`)
	is(t, "the schema", s, small)
	is(t, "the query", parse.Same(q, query(t, text)), true)
	second, _ := Bind(s, q)
	s.Dims[0], s.Meas[1], q.Items[0].Column, q.Groups[0].Columns[0], q.Groups[1].Sets[0][0] = "z", "z", "z", "z", "z"
	q.Where.Left.Values[0].Text, q.Where.Right.Values[0].Int, q.Where.Kind = "z", 9, api.CondOr
	is(t, "told ahead of a change", told(second, api.OK), want)
	clear(first.Picks)
	clear(first.Names)
	clear(first.Sets)
	clear(first.Where.Left.Texts)
	clear(first.Where.Right.Ints)
	is(t, "told beside", told(second, api.OK), want)
	_ = append(second.Where.Left.Texts, "z")
	_ = append(second.Where.Right.Ints, 9)
	_ = append(second.Sets, 9)
	third, _ := Bind(small, query(t, text))
	is(t, "told again", told(third, api.OK), want)
}
