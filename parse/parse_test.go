package parse

import (
	"fmt"
	"strings"
	"testing"

	"caisson/api"
)

func is(t *testing.T, what string, got, want any) {
	t.Helper()
	if g, w := fmt.Sprint(got), fmt.Sprint(want); g != w {
		t.Errorf("%.200q: %.300s, want %.300s", what, g, w)
	}
}

// a query with all that it has, a condition's nodes ahead of what stands below them; of a tree alone
func dump(q api.Query) string {
	s := fmt.Sprintf("%v %q", q.Items, q.Table)
	if q.Where != nil {
		s += " " + dumpCond(q.Where)
	}
	if q.Grouped || len(q.Groups) > 0 {
		s += fmt.Sprintf(" %v", q.Grouped)
	}
	for _, g := range q.Groups {
		s += fmt.Sprintf(" %d%q%q", g.Kind, append([]string{}, g.Columns...), append([][]string{}, g.Sets...))
	}
	return s
}

func dumpCond(c *api.Cond) string {
	if c == nil {
		return "-"
	}
	s := fmt.Sprintf("%d", c.Kind)
	if c.Column != "" || c.Op != 0 || len(c.Values) > 0 {
		s += fmt.Sprintf(" %q %d", c.Column, c.Op)
	}
	for _, v := range c.Values {
		if v.IsText {
			s += fmt.Sprintf(" %q", v.Text)
			if v.Int != 0 {
				s += fmt.Sprintf("!%d", v.Int)
			}
		} else {
			s += fmt.Sprintf(" %d", v.Int) + v.Text
		}
	}
	if c.Left != nil || c.Right != nil {
		s += " " + dumpCond(c.Left)
	}
	if c.Right != nil {
		s += " " + dumpCond(c.Right)
	}
	return "(" + s + ")"
}

// what Parse tells: the query's dump, or the fault, with which there is no query
func told(text string) string {
	q, f := Parse(text)
	if f == (api.Fault{}) {
		return dump(q)
	}
	return fault(f.Code, f.At) + strings.TrimPrefix(dump(q), dump(api.Query{}))
}

func fault(e api.Errno, at int) string { return fmt.Sprintf("fault %d at %d", int(e), at) }

func syntax(at int) string { return fault(api.ErrSyntax, at) }

// each text, and what is told of it
func check(t *testing.T, cases [][2]string) {
	t.Helper()
	for _, c := range cases {
		is(t, c[0], told(c[0]), c[1])
	}
}

// what stands behind WHERE, and the condition that it is
func checkWhere(t *testing.T, cases [][2]string) {
	t.Helper()
	for _, c := range cases {
		is(t, c[0], told("SELECT a FROM f WHERE "+c[0]), `[{1 a}] "f" `+c[1])
	}
}

// what stands behind GROUP BY, and the elements that they are
func checkGroups(t *testing.T, cases [][2]string) {
	t.Helper()
	for _, c := range cases {
		is(t, c[0], told("SELECT a FROM f GROUP BY "+c[0]), `[{1 a}] "f" true `+c[1])
	}
}

// what stands behind such a beginning, and how far behind it the fault is
func checkSyntax(t *testing.T, ahead string, cases map[string]int) {
	t.Helper()
	for text, at := range cases {
		is(t, ahead+text, told(ahead+text), syntax(len(ahead)+at))
	}
}

// a text so many times, with another one between
func times(many int, text, between string) string {
	return strings.Repeat(text+between, many-1) + text
}

func TestExamples(t *testing.T) {
	check(t, [][2]string{
		{"select a, count(*) from facts group by a", `[{1 a} {2 }] "facts" true 1["a"][]`},
		{"SELECT SUM(m) FROM facts WHERE NOT a = 'x' AND b IN ('y') OR m >= -9223372036854775808",
			`[{3 m}] "facts" (2 (1 (3 (4 "a" 1 "x")) (5 "b" 0 "y")) (4 "m" 6 -9223372036854775808))`},
		{"SELECT FROM facts", syntax(7)},
		{"SELECT a FROM facts WHERE a", syntax(27)},
		{"SELECT a facts", syntax(9)},
		{"SELECT a FROM facts b", syntax(20)},
		{"SELECT a FROM facts WHERE m = 9223372036854775808", fault(api.ErrLong, 30)},
		{"SELECT a FROM facts WHERE " + times(33, "m = 1", " AND "), fault(api.ErrDeep, 0)},
		{"SELECT " + times(17, "a", ", ") + " FROM facts", fault(api.ErrMany, 0)},
	})
}

func TestP101Items(t *testing.T) {
	check(t, [][2]string{
		{"SELECT a FROM f", `[{1 a}] "f"`},
		{"SELECT COUNT(*) FROM f", `[{2 }] "f"`},
		{"SELECT SUM(m) FROM f", `[{3 m}] "f"`},
		{"SELECT MIN(m) FROM f", `[{4 m}] "f"`},
		{"SELECT MAX(m) FROM f", `[{5 m}] "f"`},
		{"SELECT GROUPING(m) FROM f", `[{6 m}] "f"`},
		{"SELECT b,a,a,COUNT(*),SUM(a),b FROM _f9", `[{1 b} {1 a} {1 a} {2 } {3 a} {1 b}] "_f9"`},
		{"sElEcT\tCount\n(\r*\n)\t,Max(\nm )\nFrom\rFROMs", `[{2 } {5 m}] "FROMs"`},
		{"SELECT " + times(16, "a", ",") + " FROM f", "[" + times(16, "{1 a}", " ") + `] "f"`},
		{"SELECT " + strings.Repeat("x", 32) + " FROM " + strings.Repeat("y", 32), "[{1 " + strings.Repeat("x", 32) + `}] "` + strings.Repeat("y", 32) + `"`},
	})
}

func TestP101Conditions(t *testing.T) {
	checkWhere(t, [][2]string{
		{"a = 'x'", `(4 "a" 1 "x")`},
		{"a <> 'x'", `(4 "a" 2 "x")`},
		{"a < 'x'", `(4 "a" 3 "x")`},
		{"a <= 'x'", `(4 "a" 4 "x")`},
		{"a > 'x'", `(4 "a" 5 "x")`},
		{"a >= 'x'", `(4 "a" 6 "x")`},
		{"a = ''", `(4 "a" 1 "")`},
		{"a = 'it''s'", `(4 "a" 1 "it's")`},
		{"a = '5'", `(4 "a" 1 "5")`},
		{"a IN (5)", `(5 "a" 0 5)`},
		{"a in ('b',-5, 0 ,'','b')", `(5 "a" 0 "b" -5 0 "" "b")`},
		{"a IN (" + times(64, "1", ",") + ")", `(5 "a" 0 ` + times(64, "1", " ") + ")"},
		{"a = 1 OR b = 2 OR c = 3 OR d = 4", `(2 (2 (2 (4 "a" 1 1) (4 "b" 1 2)) (4 "c" 1 3)) (4 "d" 1 4))`},
		{"a = 1 AND b = 2 AND c = 3", `(1 (1 (4 "a" 1 1) (4 "b" 1 2)) (4 "c" 1 3))`},
		{"a = 1 OR b = 2 AND c = 3 OR d = 4", `(2 (2 (4 "a" 1 1) (1 (4 "b" 1 2) (4 "c" 1 3))) (4 "d" 1 4))`},
		{"a = 1 AND b = 2 OR c = 3 AND d = 4", `(2 (1 (4 "a" 1 1) (4 "b" 1 2)) (1 (4 "c" 1 3) (4 "d" 1 4)))`},
		{"a = 1 OR (b = 2 OR c = 3)", `(2 (4 "a" 1 1) (2 (4 "b" 1 2) (4 "c" 1 3)))`},
		{"a = 1 AND (b = 2 AND c = 3)", `(1 (4 "a" 1 1) (1 (4 "b" 1 2) (4 "c" 1 3)))`},
		{"(a = 1 OR b = 2) AND c = 3", `(1 (2 (4 "a" 1 1) (4 "b" 1 2)) (4 "c" 1 3))`},
		{"NOT a = 1", `(3 (4 "a" 1 1))`},
		{"NOT NOT a = 1", `(3 (3 (4 "a" 1 1)))`},
		{"NOT a = 1 AND NOT b = 2 OR NOT c = 3", `(2 (1 (3 (4 "a" 1 1)) (3 (4 "b" 1 2))) (3 (4 "c" 1 3)))`},
		{"NOT (a = 1 AND b = 2) OR c = 3", `(2 (3 (1 (4 "a" 1 1) (4 "b" 1 2))) (4 "c" 1 3))`},
		{"NOT(NOT(a=1)OR(b=2))", `(3 (2 (3 (4 "a" 1 1)) (4 "b" 1 2)))`},
		{strings.Repeat("(", 2030) + "a=1" + strings.Repeat(")", 2030), `(4 "a" 1 1)`},
	})
}

func TestP101Numbers(t *testing.T) {
	checkWhere(t, [][2]string{
		{"m = 0", `(4 "m" 1 0)`},
		{"m = -0", `(4 "m" 1 0)`},
		{"m = 7", `(4 "m" 1 7)`},
		{"m = -7", `(4 "m" 1 -7)`},
		{"m = - \n7", `(4 "m" 1 -7)`},
		{"m<-7", `(4 "m" 3 -7)`},
		{"m = 9223372036854775807", `(4 "m" 1 9223372036854775807)`},
		{"m = -9223372036854775807", `(4 "m" 1 -9223372036854775807)`},
		{"m = -9223372036854775808", `(4 "m" 1 -9223372036854775808)`},
		{"m IN (-9223372036854775808, 9223372036854775807)", `(5 "m" 0 -9223372036854775808 9223372036854775807)`},
	})
	is(t, "no number at all", told("SELECT a FROM f WHERE m = -'7'"), syntax(27))
}

func TestP101Groups(t *testing.T) {
	checkGroups(t, [][2]string{
		{"a", `1["a"][]`},
		{"a, b,a", `1["a"][] 1["b"][] 1["a"][]`},
		{"ROLLUP(a)", `2["a"][]`},
		{"rollup ( a,b , a)", `2["a" "b" "a"][]`},
		{"CUBE(a)", `3["a"][]`},
		{"cube(c,b)", `3["c" "b"][]`},
		{"GROUPING SETS(a)", `4[][["a"]]`},
		{"GROUPING SETS((a))", `4[][["a"]]`},
		{"GROUPING SETS(())", `4[][[]]`},
		{"Grouping\nSets ( a , ( ) ,(a , b),( c),d)", `4[][["a"] [] ["a" "b"] ["c"] ["d"]]`},
		{"a, ROLLUP(b), CUBE(c), GROUPING SETS(d), e", `1["a"][] 2["b"][] 3["c"][] 4[][["d"]] 1["e"][]`},
		{times(16, "a", ","), times(16, `1["a"][]`, " ")},
		{"CUBE(" + times(16, "a", ",") + ")", `3[` + times(16, `"a"`, " ") + `][]`},
		{"GROUPING SETS(" + times(64, "()", ",") + ")", `4[][` + times(64, "[]", " ") + `]`},
	})
}

// The first word at which nothing goes on, whatever stands behind it.
func TestP101Syntax(t *testing.T) {
	checkSyntax(t, "", map[string]int{
		"": 0, " \n": 2, "a": 0, "FROM": 0, "'SELECT' a FROM f": 0, "7": 0, "(SELECT a FROM f)": 0, "SELECT": 6, "SELECT ": 7,
		"SELECT SELECT": 7, "SELECT * FROM f": 7, "SELECT , a FROM f": 7, "SELECT 'a' FROM f": 7, "SELECT 1 FROM f": 7, "SELECT (a) FROM f": 7,
		"SELECT a": 8, "SELECT a b FROM f": 9, "SELECT a, FROM f": 10, "SELECT a, , b": 10, "SELECT a FROM": 13, "SELECT a FROM 'f'": 14,
		"SELECT a FROM f,g": 15, "SELECT a FROM f SELECT": 16, "SELECT a FROM WHERE": 14, "SELECT a FROM f f": 16, "SELECT a FROM f (": 16,
		"SELECT COUNT FROM f": 13, "SELECT COUNT(a) FROM f": 13, "SELECT COUNT() FROM f": 13, "SELECT COUNT(*": 14, "SELECT COUNT(*,*)": 14,
		"SELECT SUM m FROM f": 11, "SELECT SUM(*) FROM f": 11, "SELECT SUM() FROM f": 11, "SELECT SUM(m, m)": 12, "SELECT SUM(m FROM f": 13, "SELECT SUM(-m)": 11,
		"SELECT MIN(1)": 11, "SELECT MAX('m')": 11, "SELECT MAX(MAX(m))": 11, "SELECT GROUPING SETS(a) FROM f": 16, "SELECT ROLLUP(a) FROM f": 7, "SELECT IN(a) FROM f": 7,
		"SELECT a FROM f GROUP a": 22, "SELECT a FROM f BY a": 16, "SELECT a FROM f GROUP": 21, "SELECT a FROM f GROUP BY": 24, "SELECT a FROM f GROUP BY a WHERE a = 1": 27,
		"SELECT a FROM f AND b = 1": 16, "SELECT a FROM f WHERE": 21, "SELECT a FROM f WHERE GROUP BY a": 22,
	})
	checkSyntax(t, "SELECT a FROM f WHERE ", map[string]int{
		"a b = 1": 2, "a = b": 4, "a = = 1": 4, "a == 1": 3, "a = (1)": 4, "a = --1": 5, "a = -": 5, "a * 1": 2, "a - 1": 2, "a ( 1": 2, "a , 1": 2,
		"1 = a": 0, "'a' = a": 0, "-a = 1": 0, "NOT": 3, "NOT AND": 4, "NOT )": 4, "a = 1 NOT b = 2": 6, "AND a = 1": 0, "a = 1 AND": 9, "a = 1 AND OR": 10,
		"a = 1 AND AND b = 1": 10, "a = 1 OR": 8, "a = 1 OR )": 9, "a = 1 b = 2": 6, "a = 1 2": 6, "a = 1, b = 2": 5, "a = 1)": 5, "(": 1, "()": 1, "(a": 2, "(a = 1": 6, "(a = 1 GROUP BY a": 7,
		"(a = 1))": 7, "((a = 1)": 8, "((a)) = 1": 3, "(a) = 1": 2, "(a = 1) b = 1": 8, "(a = 1) = 1": 8, "a IN": 4, "a IN 1": 5, "a IN ()": 6, "a IN (b)": 6, "a IN (1": 7, "a IN (1,": 8,
		"a IN (1,)": 8, "a IN (1 2)": 8, "a IN ((1))": 6, "a IN (1) IN (1)": 9, "a NOT IN (1)": 2, "IN (1)": 0, "a IN (-)": 7, "a IN (SELECT a FROM f)": 6, "a = 1 IN (1)": 6,
		"a = SUM(m)": 4, "SUM(m) = 1": 0, "a": 1, "a =": 3, "a < > 1": 4, "a = 1 WHERE b = 1": 6, "a = 1 FROM f": 6,
	})
	checkSyntax(t, "SELECT a FROM f GROUP BY ", map[string]int{
		",": 0, "a,": 2, "a b": 2, "a)": 1, "(a)": 0, "()": 0, "1": 0, "'a'": 0, "SUM(a)": 0, "a GROUP BY b": 2, "a AND b": 2, "a = 1": 2,
		"ROLLUP": 6, "ROLLUP a": 7, "ROLLUP()": 7, "ROLLUP(a": 8, "ROLLUP(a,": 9, "ROLLUP(a,)": 9, "ROLLUP(a b)": 9, "ROLLUP((a))": 7, "ROLLUP(a))": 9, "ROLLUP(1)": 7, "ROLLUP(*)": 7,
		"CUBE": 4, "CUBE a": 5, "CUBE()": 5, "CUBE(a": 6, "CUBE(a,)": 7, "CUBE(CUBE(a))": 5, "CUBE ROLLUP(a)": 5,
		"GROUPING": 8, "GROUPING(a)": 8, "GROUPING SETS": 13, "GROUPING SETS a": 14, "GROUPING SETS()": 14, "GROUPING SETS(": 14, "GROUPING SETS(a": 15, "GROUPING SETS(a,)": 16, "GROUPING SETS(a b)": 16,
		"GROUPING SETS((a)": 17, "GROUPING SETS((a,))": 17, "GROUPING SETS((a b))": 17, "GROUPING SETS(((a)))": 15, "GROUPING SETS((()))": 15, "GROUPING SETS((,))": 15, "GROUPING SETS(ROLLUP(a))": 14,
		"GROUPING SETS(1)": 14, "SETS(a)": 0, "a SETS(a)": 2, "GROUPING SETS(a) b": 17, "ROLLUP(a) ROLLUP(b)": 10,
	})
}

// What is wrong with the words goes ahead of all else.
func TestP101Words(t *testing.T) {
	check(t, [][2]string{
		{"FROM FROM ;", fault(api.ErrWord, 10)},
		{"SELECT a ; FROM facts", fault(api.ErrWord, 9)},
		{"SELECT a FROM f WHERE m = 9223372036854775808 OR 007", fault(api.ErrWord, 49)},
		{"SELECT " + times(17, "a", ",") + " FROM 'f", fault(api.ErrWord, 46)},
		{"SELECT a b FROM " + strings.Repeat("x", 33), fault(api.ErrLong, 16)},
		{"SELECT a FROM f WHERE m = 12345678901234567890", fault(api.ErrLong, 26)},
		{"SELECT a FROM f WHERE m = -12345678901234567890", fault(api.ErrLong, 27)},
		{"SELECT a FROM f WHERE m = '" + strings.Repeat("x", 65) + "'", fault(api.ErrLong, 26)},
		{"SELECT" + strings.Repeat(" ", 4091), fault(api.ErrLong, 0)},
		{"SELECT" + strings.Repeat(" ", 4090), syntax(4096)},
		{"SELECT a FROM f" + strings.Repeat(" ", 4096-15), `[{1 a}] "f"`},
		{strings.Repeat("(", 1<<20), fault(api.ErrLong, 0)},
		{"SELECT a FROM f WHERE " + strings.Repeat("(", 4096-22), syntax(4096)},
		{"SELECT a FROM f WHERE " + times(1018, "NOT", " "), syntax(4093)},
	})
}

// A number that is no int64, of what stands from the left.
func TestP101Long(t *testing.T) {
	check(t, [][2]string{
		{"SELECT a FROM f WHERE m = 9999999999999999999", fault(api.ErrLong, 26)},
		{"SELECT a FROM f WHERE m = -9223372036854775809", fault(api.ErrLong, 27)},
		{"SELECT a FROM f WHERE m = - 9999999999999999999", fault(api.ErrLong, 28)},
		{"SELECT a FROM f WHERE m IN (1, -2, 9223372036854775808, 9223372036854775809)", fault(api.ErrLong, 35)},
		{"SELECT a FROM f WHERE m = 9223372036854775808 m", fault(api.ErrLong, 26)},
		{"SELECT a FROM f WHERE (m = 9223372036854775808", fault(api.ErrLong, 27)},
		{"SELECT a FROM f WHERE a a = 9223372036854775808", syntax(24)},
		{"SELECT a FROM f WHERE m = 1 9223372036854775808", syntax(28)},
		{"SELECT a FROM f WHERE m = --9223372036854775808", syntax(27)},
		{"SELECT a FROM f WHERE m 9223372036854775808", syntax(24)},
		{"SELECT 9223372036854775808 FROM f", syntax(7)},
		{"9223372036854775808", syntax(0)},
	})
}

// Many is told behind what the grammar says, and ahead of Deep.
func TestP101Many(t *testing.T) {
	many := fault(api.ErrMany, 0)
	check(t, [][2]string{
		{"SELECT " + times(17, "COUNT(*)", ", ") + " FROM f", many},
		{"SELECT " + times(300, "SUM(m)", ",") + " FROM f", many},
		{"SELECT a FROM f WHERE a IN (" + times(65, "1", ",") + ")", many},
		{"SELECT a FROM f WHERE NOT (a = 1 OR a IN (" + times(65, "''", ",") + ")) AND b = 1", many},
		{"SELECT a FROM f WHERE a IN (" + times(65, "1", ",") + ") OR a IN (1)", many},
		{"SELECT a FROM f GROUP BY " + times(17, "a", ","), many},
		{"SELECT a FROM f GROUP BY " + times(17, "CUBE(a)", ","), many},
		{"SELECT a FROM f GROUP BY ROLLUP(" + times(17, "a", ",") + ")", many},
		{"SELECT a FROM f GROUP BY a, CUBE(" + times(17, "a", ",") + "), b", many},
		{"SELECT a FROM f GROUP BY GROUPING SETS(" + times(65, "a", ",") + ")", many},
		{"SELECT a FROM f GROUP BY GROUPING SETS(" + times(65, "()", ",") + ")", many},
		{"SELECT a FROM f GROUP BY GROUPING SETS((), (" + times(17, "a", ",") + "), a)", many},
		{"SELECT " + times(17, "a", ",") + " FROM f GROUP BY", syntax(56)},
		{"SELECT " + times(17, "a", ",") + " FROM f WHERE m = 9223372036854775808", fault(api.ErrLong, 58)},
		{"SELECT " + times(17, "a", ",") + " FROM f WHERE " + times(33, "a=1", " OR "), many},
		{"SELECT a FROM f WHERE " + times(33, "a=1", " OR ") + " GROUP BY " + times(17, "a", ","), many},
	})
	for _, text := range []string{
		"SELECT " + times(16, "SUM(m)", ",") + " FROM f WHERE a IN (" + times(64, "1", ",") + ") OR b IN (" + times(64, "'b'", ",") + ")",
		"SELECT a FROM f GROUP BY " + times(16, "ROLLUP("+times(16, "a", ",")+")", ","),
		"SELECT a FROM f GROUP BY " + times(8, "GROUPING SETS("+times(64, "a", ",")+")", ","),
		"SELECT a FROM f GROUP BY GROUPING SETS(" + times(63, "("+times(16, "a", ",")+")", ",") + ", ())",
	} {
		_, f := Parse(text)
		is(t, text, f, api.Fault{})
	}
}

// conditions by their depth, made in several ways
var deepOnes = []func(n int) string{
	func(n int) string { return times(n, "a = 1", " AND ") },
	func(n int) string { return times(n, "a = 1", " OR ") },
	func(n int) string { return strings.Repeat("NOT ", n-1) + "a IN (1)" },
	func(n int) string { return strings.Repeat("(((NOT ", n-1) + "a = 1" + strings.Repeat(")))", n-1) },
	func(n int) string { return strings.Repeat("a = 1 AND (", n-1) + "a = 1" + strings.Repeat(")", n-1) },
	func(n int) string { return strings.Repeat("a = 1 OR (", n-1) + "a = 1" + strings.Repeat(")", n-1) },
	func(n int) string { return "a = 1 AND (" + times(n-1, "a = 1", " OR ") + ")" },
	func(n int) string { return "(" + times(n-1, "a = 1", " OR ") + ") AND a = 1 " },
	func(n int) string { return "NOT (" + times(n-1, "a = 1", " AND ") + ")" },
	func(n int) string {
		return times(n-4, "a = 1", " OR ") + " OR NOT NOT a = 1 OR (a = 1 AND (b = 1 AND c = 1)) OR b = 1 OR c = 1"
	},
}

func TestP101Deep(t *testing.T) {
	for _, deep := range deepOnes {
		_, f := Parse("SELECT a FROM f WHERE " + deep(32))
		is(t, deep(32), f, api.Fault{})
		check(t, [][2]string{
			{"SELECT a FROM f WHERE " + deep(33), fault(api.ErrDeep, 0)},
			{"SELECT a FROM f WHERE " + deep(60), fault(api.ErrDeep, 0)},
		})
	}
	check(t, [][2]string{
		{"SELECT a FROM f WHERE " + deepOnes[0](300), fault(api.ErrDeep, 0)},
		{"SELECT a FROM f WHERE " + deepOnes[2](1010), fault(api.ErrDeep, 0)},
		{"SELECT a FROM f WHERE " + deepOnes[2](33) + " a", syntax(22 + 32*4 + 9)},
		{"SELECT a FROM f WHERE " + deepOnes[2](33) + " AND a = -9999999999999999999", fault(api.ErrLong, 22+32*4+8+10)},
	})
}

// What Parse tells is its owner's, and no list of it shares memory with another.
func TestP101Apart(t *testing.T) {
	const text = "SELECT a, b FROM f WHERE a IN (1, 2) OR b IN (3) GROUP BY a, ROLLUP(a, b, c), CUBE(a), GROUPING SETS((a, b, c), c, ())"
	q, _ := Parse(text)
	want := dump(q)
	_ = append(q.Items, api.Item{}, api.Item{})
	_ = append(q.Where.Left.Values, api.Value{}, api.Value{})
	_ = append(q.Groups, api.Group{}, api.Group{})
	for _, g := range q.Groups {
		_ = append(g.Columns, "x", "x")
		_ = append(g.Sets, []string{"x"}, []string{"x"})
		for _, set := range g.Sets {
			_ = append(set, "x", "x")
		}
	}
	is(t, "behind each list", dump(q), want)
	q.Items[0], q.Where.Left.Values[0], q.Where.Right.Column = api.Item{}, api.Value{}, "x"
	q.Groups[1].Columns[0], q.Groups[3].Sets[0][0], q.Groups[3].Sets[1] = "x", "x", nil
	is(t, "another one", told(text), want)
}
