package answer

import (
	"fmt"
	"math"
	"slices"
	"strings"
	"testing"

	"caisson/api"
	"caisson/bind"
	"caisson/group"
	"caisson/lex"
	"caisson/parse"
)

func is(t *testing.T, what string, got, want any) {
	t.Helper()
	if g, w := fmt.Sprint(got), fmt.Sprint(want); g != w {
		t.Errorf("%.300s: %.600s, want %.600s", what, g, w)
	}
}

// fact is one of some texts, none of which has a blank within; a point is the empty one.
func fact(texts string, meas ...int64) api.Fact { return api.Fact{Dims: key(texts), Meas: meas} }

func key(texts string) []string {
	l := strings.Fields(texts)
	for i := range l {
		if l[i] == "." {
			l[i] = ""
		}
	}
	return l
}

// small are the document's facts.
func small() []api.Fact {
	return []api.Fact{fact("x p", 1), fact("y p", 2), fact("x q", 3)}
}

// row is one of a key and an accumulator.
func row(texts string, count int, parts ...api.Part) api.Row {
	return api.Row{Key: key(texts), Acc: api.Acc{Count: count, Parts: parts}}
}

// part is one with a number: its sum (of one half), its least and its greatest.
func part(sum, low, high int64) api.Part {
	return api.Part{Any: true, Sum: api.Sum{Hi: sum >> 63, Lo: uint64(sum)}, Min: low, Max: high}
}

// wrong is a part without a number that holds something all the same.
var wrong = api.Part{Sum: api.Sum{Hi: 1, Lo: 5}, Min: -9, Max: 9}

// bound is a query of some picks, each named by its kind and index, and some sets.
func bound(picks []api.Pick, sets ...int) api.Bound {
	b := api.Bound{Picks: picks, Sets: sets}
	for _, p := range picks {
		b.Names = append(b.Names, fmt.Sprintf("%d.%d", p.Kind, p.Index))
	}
	return b
}

// dump is a result with all that its cells have, or the error's number; both, if something stands beside an error.
func dump(r api.Result, e api.Errno) string {
	if e != api.OK && r.Columns == nil && r.Rows == nil {
		return fmt.Sprintf("error %d", int(e))
	}
	s := fmt.Sprintf("%q:", append([]string{}, r.Columns...))
	for _, cells := range r.Rows {
		l := []string{}
		for _, c := range cells {
			switch c {
			case api.Cell{}:
				l = append(l, "-")
			case api.Cell{Kind: api.Int, Int: c.Int}:
				l = append(l, fmt.Sprint(c.Int))
			case api.Cell{Kind: api.Text, Text: c.Text}:
				l = append(l, fmt.Sprintf("%q", c.Text))
			default:
				l = append(l, fmt.Sprintf("%+v", c))
			}
		}
		s += " (" + strings.Join(l, " ") + ")"
	}
	if e != api.OK {
		s += fmt.Sprintf(" error %d", int(e))
	}
	return s
}

const (
	badArg   = "error 1"
	overflow = "error 48"
)

// all are picks of each kind with a dimension 0 or a measure 0.
var all = []api.Pick{{Kind: 1}, {Kind: 2}, {Kind: 3}, {Kind: 4}, {Kind: 5}, {Kind: 6}}

// cellsOnly is a dump without the names.
func cellsOnly(r api.Result, e api.Errno) string {
	s := dump(r, e)
	if i := strings.Index(s, "]:"); i >= 0 {
		return strings.TrimPrefix(s[i+2:], " ")
	}
	return s
}

// ask is what a query is answered, as a text and the error's number.
func ask(t *testing.T, text string, facts []api.Fact) string {
	t.Helper()
	q, f := parse.Parse(text)
	b, e := bind.Bind(api.Schema{Dims: []string{"a", "b"}, Meas: []string{"m"}}, q)
	if f.Code != api.OK || e != api.OK {
		t.Fatal(text, f, e)
	}
	r, e := Answer(b, facts, 1)
	return fmt.Sprint(Text(r), int(e))
}

func TestExamples(t *testing.T) {
	for _, c := range [][2]string{
		{"SELECT a, COUNT(*), SUM(m) FROM facts GROUP BY ROLLUP(a)", "a|COUNT(*)|SUM(m)\n'x'|2|4\n'y'|1|2\n|3|6\n0"},
		{"SELECT GROUPING(b), MAX(m) FROM facts WHERE a = 'x' GROUP BY CUBE(b)", "GROUPING(b)|MAX(m)\n0|1\n0|3\n1|3\n0"},
		{"SELECT COUNT(*), SUM(m) FROM facts WHERE a = 'z'", "COUNT(*)|SUM(m)\n0|\n0"},
		{"SELECT a, COUNT(*) FROM facts WHERE a = 'z' GROUP BY a", "a|COUNT(*)\n0"},
		{"SELECT a, SUM(m) FROM facts WHERE b = 'p' GROUP BY a", "a|SUM(m)\n'x'|1\n'y'|2\n0"},
		{"SELECT a, b, COUNT(*) FROM facts GROUP BY ROLLUP(a, b)", "a|b|COUNT(*)\n'x'|'p'|1\n'x'|'q'|1\n'y'|'p'|1\n'x'||2\n'y'||1\n||3\n0"},
		{"SELECT MAX(m), b, MIN(m), b FROM facts GROUP BY GROUPING SETS((b), (a))", "MAX(m)|b|MIN(m)|b\n2|'p'|1|'p'\n3|'q'|3|'q'\n3||1|\n2||2|\n0"},
	} {
		is(t, c[0], ask(t, c[0], small()), c[1])
	}
	most := int64(math.MaxInt64)
	sum := "SELECT SUM(m) FROM facts"
	is(t, "2^63 - 1 and 1", ask(t, sum, []api.Fact{fact("x p", most), fact("x p", 1)}), "\n48")
	is(t, "2^63 - 1 twice", ask(t, sum, []api.Fact{fact("x p", most), fact("x p", most)}), "\n48")
	is(t, "and -(2^63 - 1)", ask(t, sum, []api.Fact{fact("x p", most), fact("x p", most), fact("x p", -most)}), "SUM(m)\n9223372036854775807\n0")
}

func TestP151Cells(t *testing.T) {
	x := row("x", 7, part(5, -3, 8), part(-6, -6, -2))
	for _, c := range []struct {
		what string
		pick api.Pick
		set  int
		row  api.Row
		want string
	}{
		{"a column", api.Pick{Kind: api.ItemColumn}, 1, x, `("x")`},
		{"one beside the set", api.Pick{Kind: api.ItemColumn, Index: 1}, 1, x, "(-)"},
		{"one of the highest dimension", api.Pick{Kind: api.ItemColumn, Index: 5}, 32, x, `("x")`},
		{"one below that", api.Pick{Kind: api.ItemColumn, Index: 4}, 32, x, "(-)"},
		{"no dimension", api.Pick{Kind: api.ItemColumn, Index: 6}, 32, x, "(-)"},
		{"no dimension at all", api.Pick{Kind: api.ItemColumn, Index: 64}, 1, x, "(-)"},
		{"the greatest number", api.Pick{Kind: api.ItemColumn, Index: math.MaxInt}, 1, x, "(-)"},
		{"an empty text", api.Pick{Kind: api.ItemColumn}, 1, row(".", 1), `("")`},
		{"the first of three", api.Pick{Kind: api.ItemColumn}, 37, row("x y z", 1), `("x")`},
		{"the second of three", api.Pick{Kind: api.ItemColumn, Index: 2}, 37, row("x y z", 1), `("y")`},
		{"the third of three", api.Pick{Kind: api.ItemColumn, Index: 5}, 37, row("x y z", 1), `("z")`},
		{"none of three", api.Pick{Kind: api.ItemColumn, Index: 1}, 37, row("x y z", 1), "(-)"},
		{"whatever bytes", api.Pick{Kind: api.ItemColumn}, 1, api.Row{Key: []string{"\x00'\xff"}}, `("\x00'\xff")`},

		{"Count", api.Pick{Kind: api.ItemCount}, 1, x, "(7)"},
		{"Count of whatever number", api.Pick{Kind: api.ItemCount, Index: 99}, 1, x, "(7)"},
		{"Count of none", api.Pick{Kind: api.ItemCount}, 1, row("x", 0), "(0)"},
		{"Count below 0", api.Pick{Kind: api.ItemCount}, 1, row("x", math.MinInt), "(-9223372036854775808)"},
		{"the greatest Count", api.Pick{Kind: api.ItemCount}, 1, row("x", math.MaxInt), "(9223372036854775807)"},

		{"Sum", api.Pick{Kind: api.ItemSum}, 1, x, "(5)"},
		{"Sum of the second", api.Pick{Kind: api.ItemSum, Index: 1}, 1, x, "(-6)"},
		{"Sum of none", api.Pick{Kind: api.ItemSum, Index: 2}, 1, x, "(-)"},
		{"Sum of none at all", api.Pick{Kind: api.ItemSum, Index: math.MaxInt}, 1, x, "(-)"},
		{"Sum without a number", api.Pick{Kind: api.ItemSum}, 1, row("x", 3, api.Part{}), "(-)"},
		{"Sum without a number, of what may not be", api.Pick{Kind: api.ItemSum}, 1, row("x", 3, wrong), "(-)"},
		{"Sum of a Part that may not be", api.Pick{Kind: api.ItemSum}, 1, row("x", -1, part(1, 5, 3)), "(1)"},

		{"Min", api.Pick{Kind: api.ItemMin}, 1, x, "(-3)"},
		{"Min of the second", api.Pick{Kind: api.ItemMin, Index: 1}, 1, x, "(-6)"},
		{"Min of none", api.Pick{Kind: api.ItemMin, Index: 2}, 1, x, "(-)"},
		{"Min without a number", api.Pick{Kind: api.ItemMin}, 1, row("x", 3, wrong), "(-)"},
		{"the least Min", api.Pick{Kind: api.ItemMin}, 1, row("x", 3, part(0, math.MinInt64, 0)), "(-9223372036854775808)"},
		{"Min of a Part that may not be", api.Pick{Kind: api.ItemMin}, 1, row("x", -1, part(1, 5, 3)), "(5)"},

		{"Max", api.Pick{Kind: api.ItemMax}, 1, x, "(8)"},
		{"Max of the second", api.Pick{Kind: api.ItemMax, Index: 1}, 1, x, "(-2)"},
		{"Max of none", api.Pick{Kind: api.ItemMax, Index: 2}, 1, x, "(-)"},
		{"Max without a number", api.Pick{Kind: api.ItemMax}, 1, row("x", 3, wrong), "(-)"},
		{"the greatest Max", api.Pick{Kind: api.ItemMax}, 1, row("x", 3, part(0, 0, math.MaxInt64)), "(9223372036854775807)"},
		{"Max of a Part that may not be", api.Pick{Kind: api.ItemMax}, 1, row("x", -1, part(1, 5, 3)), "(3)"},

		{"Grouping", api.Pick{Kind: api.ItemGrouping}, 1, x, "(0)"},
		{"Grouping beside the set", api.Pick{Kind: api.ItemGrouping, Index: 1}, 1, x, "(1)"},
		{"Grouping of the highest dimension", api.Pick{Kind: api.ItemGrouping, Index: 5}, 32, x, "(0)"},
		{"Grouping of no dimension", api.Pick{Kind: api.ItemGrouping, Index: 6}, 63, row("a b c d e f", 1), "(1)"},
		{"Grouping of no dimension at all", api.Pick{Kind: api.ItemGrouping, Index: math.MaxInt}, 63, row("a b c d e f", 1), "(1)"},
		{"Grouping of number 64", api.Pick{Kind: api.ItemGrouping, Index: 64}, 1, x, "(1)"},
		{"Grouping by nothing", api.Pick{Kind: api.ItemGrouping}, 0, row("", 1), "(1)"},
	} {
		is(t, c.what, cellsOnly(Render(bound([]api.Pick{c.pick}, c.set), [][]api.Row{{c.row}})), c.want)
	}
	is(t, "all of a row", dump(Render(bound(all, 1), [][]api.Row{{x}})), `["1.0" "2.0" "3.0" "4.0" "5.0" "6.0"]: ("x" 7 5 -3 8 0)`)
	is(t, "in another order", cellsOnly(Render(bound([]api.Pick{all[4], all[0], all[5], all[0], all[2]}, 1), [][]api.Row{{x}})), `(8 "x" 0 "x" 5)`)
}

// Each dimension of each set stands at its place in the key.
func TestP151Sets(t *testing.T) {
	for set := range 64 {
		r, want := api.Row{Acc: api.Acc{Count: 1}}, ""
		picks := []api.Pick{}
		for d, name := range key("a b c d e f") {
			picks = append(picks, api.Pick{Kind: api.ItemColumn, Index: d}, api.Pick{Kind: api.ItemGrouping, Index: d})
			if []int{1, 2, 4, 8, 16, 32}[d]&set != 0 {
				r.Key = append(r.Key, name)
				want += fmt.Sprintf(" %q 0", name)
			} else {
				want += " - 1"
			}
		}
		is(t, fmt.Sprint("set ", set), cellsOnly(Render(bound(picks, set), [][]api.Row{{r}})), "("+want[1:]+")")
	}
}

func TestP151Order(t *testing.T) {
	picks := []api.Pick{{Kind: 1}, {Kind: 1, Index: 1}, {Kind: 2}}
	groups := [][]api.Row{{row("y", 1), row("x", 2), row("y", 3)}, {row("q", 4)}, nil, {row("", 5), row("", 6)}, {row("z", 7)}}
	is(t, "as they stand", cellsOnly(Render(bound(picks, 1, 2, 3, 0, 1), groups)), `("y" - 1) ("x" - 2) ("y" - 3) (- "q" 4) (- - 5) (- - 6) ("z" - 7)`)
	is(t, "the Names are the Columns", dump(Render(api.Bound{Names: []string{"b'", "", "a|\n"}, Picks: picks}, nil)), `["b'" "" "a|\n"]:`)
}

// For the empty set alone there is a row where no group is.
func TestP151None(t *testing.T) {
	none := [][]api.Row{{}}
	is(t, "the empty set", cellsOnly(Render(bound(all, 0), none)), "(- 0 - - - 1)")
	is(t, "a nil list", cellsOnly(Render(bound(all, 0), [][]api.Row{nil})), "(- 0 - - - 1)")
	for set := 1; set < 64; set++ {
		is(t, fmt.Sprint("set ", set), cellsOnly(Render(bound(all, set), none)), "")
	}
	is(t, "among others", cellsOnly(Render(bound(all[:2], 0, 1, 0, 2, 0), [][]api.Row{nil, {row("x", 1)}, {row("", 2)}, {}, {}})), `(- 0) ("x" 1) (- 2) (- 0)`)
	is(t, "no sets", dump(Render(bound(all[:1]), nil)), `["1.0"]:`)
	is(t, "nothing at all", dump(Render(api.Bound{}, nil)), `[]:`)
	is(t, "no picks", dump(Render(bound(nil, 1, 0), [][]api.Row{{row("x", 1), row("y", 2)}, nil})), `[]: () () ()`)
}

// many are so many sets, all the same.
func many(n, set int) []int { return slices.Repeat([]int{set}, n) }

func TestP151Wrong(t *testing.T) {
	for _, c := range []struct {
		what string
		b    api.Bound
		want string
	}{
		{"64 sets", bound(all[1:2], many(64, 0)...), strings.TrimSpace(strings.Repeat("(0) ", 64))},
		{"65 sets", bound(all[1:2], many(65, 0)...), badArg},
		{"very many sets", bound(all[1:2], many(100000, 1)...), badArg},
		{"set 63", bound(all[1:2], 63), ""},
		{"set 64", bound(all[1:2], 64), badArg},
		{"set -1", bound(all[1:2], -1), badArg},
		{"the least set", bound(all[1:2], math.MinInt), badArg},
		{"the greatest set", bound(all[1:2], math.MaxInt), badArg},
		{"the last set", bound(all[1:2], 0, 1, 64), badArg},
		{"the first set", bound(all[1:2], 64, 0, 1), badArg},
		{"kind 0", bound([]api.Pick{{}}, 0), badArg},
		{"kind 7", bound([]api.Pick{{Kind: 7}}, 0), badArg},
		{"kind -1", bound([]api.Pick{{Kind: -1}}, 0), badArg},
		{"the least kind", bound([]api.Pick{{Kind: math.MinInt}}, 0), badArg},
		{"the greatest kind", bound([]api.Pick{{Kind: math.MaxInt}}, 0), badArg},
		{"index -1", bound([]api.Pick{{Kind: 1, Index: -1}}, 0), badArg},
		{"index -1 of a Count", bound([]api.Pick{{Kind: 2, Index: -1}}, 0), badArg},
		{"index -1 of a Sum", bound([]api.Pick{{Kind: 3, Index: -1}}, 0), badArg},
		{"the least index", bound([]api.Pick{{Kind: 6, Index: math.MinInt}}, 0), badArg},
		{"the last pick", bound([]api.Pick{{Kind: 2}, {Kind: 2}, {Kind: 0}}, 0), badArg},
		{"the first pick", bound([]api.Pick{{Kind: 2, Index: -1}, {Kind: 2}}, 0), badArg},
		{"a name too many", api.Bound{Names: []string{"a", "b"}, Picks: all[1:2], Sets: []int{0}}, badArg},
		{"a name too few", api.Bound{Names: []string{"a"}, Picks: all[1:3], Sets: []int{0}}, badArg},
		{"no names", api.Bound{Picks: all[1:2], Sets: []int{0}}, badArg},
		{"no picks", api.Bound{Names: []string{"a"}, Sets: []int{0}}, badArg},
		{"very many picks", bound(slices.Repeat(all[1:2], 1000), 0), "(" + strings.TrimSpace(strings.Repeat("0 ", 1000)) + ")"},
	} {
		is(t, "Render: "+c.what, cellsOnly(Render(c.b, make([][]api.Row, len(c.b.Sets)))), c.want)
		is(t, "Answer: "+c.what, cellsOnly(Answer(c.b, nil, 1)), c.want)
		if c.want == badArg {
			is(t, "Answer of some: "+c.what, cellsOnly(Answer(c.b, small(), 1)), badArg)
		}
	}
}

func TestP151WrongGroups(t *testing.T) {
	x, y := []api.Row{row("x", 1)}, []api.Row{row("x y", 1)}
	for _, c := range []struct {
		what   string
		sets   []int
		groups [][]api.Row
		want   string
	}{
		{"as many", []int{1, 3}, [][]api.Row{x, y}, "(1) (1)"},
		{"one too few", []int{1, 3}, [][]api.Row{x}, badArg},
		{"none", []int{0}, nil, badArg},
		{"one too many", []int{1, 3}, [][]api.Row{x, y, nil}, badArg},
		{"some for none", nil, [][]api.Row{nil}, badArg},
		{"turned round", []int{3, 1}, [][]api.Row{x, y}, badArg},
		{"a text too few", []int{3}, [][]api.Row{x}, badArg},
		{"no text", []int{3}, [][]api.Row{{row("", 1)}}, badArg},
		{"a text too many", []int{1}, [][]api.Row{y}, badArg},
		{"a text for none", []int{0}, [][]api.Row{x}, badArg},
		{"the last row", []int{1}, [][]api.Row{{x[0], x[0], y[0]}}, badArg},
		{"the first row", []int{1}, [][]api.Row{{y[0], x[0], x[0]}}, badArg},
		{"the last set", []int{1, 1, 1}, [][]api.Row{x, x, y}, badArg},
		{"five of six", []int{63}, [][]api.Row{{row("a b c d e", 1)}}, badArg},
		{"six of six", []int{63}, [][]api.Row{{row("a b c d e f", 1)}}, "(1)"},
		{"seven of six", []int{63}, [][]api.Row{{row("a b c d e f g", 1)}}, badArg},
	} {
		is(t, c.what, cellsOnly(Render(bound(all[1:2], c.sets...), c.groups)), c.want)
	}
}

func TestP151Overflow(t *testing.T) {
	sum := func(hi int64, lo uint64) api.Row {
		return row("x", 2, part(1, 1, 1), api.Part{Any: true, Sum: api.Sum{Hi: hi, Lo: lo}, Min: 3, Max: 4})
	}
	second := []api.Pick{{Kind: api.ItemSum, Index: 1}}
	for _, c := range []struct {
		what string
		row  api.Row
		want string
	}{
		{"2^63 - 1", sum(0, math.MaxInt64), "(9223372036854775807)"},
		{"2^63", sum(0, 1<<63), overflow},
		{"2^64 - 1", sum(0, math.MaxUint64), overflow},
		{"2^64", sum(1, 0), overflow},
		{"-2^63", sum(-1, 1<<63), "(-9223372036854775808)"},
		{"-2^63 - 1", sum(-1, 1<<63-1), overflow},
		{"-2^64", sum(-1, 0), overflow},
		{"the greatest", sum(math.MaxInt64, math.MaxUint64), overflow},
		{"the least", sum(math.MinInt64, 0), overflow},
		{"without a number", row("x", 1, part(1, 1, 1), wrong), "(-)"},
	} {
		is(t, c.what, cellsOnly(Render(bound(second, 1), [][]api.Row{{c.row}})), c.want)
	}
	big := sum(1, 0)
	is(t, "not told", cellsOnly(Render(bound([]api.Pick{{Kind: 2}, {Kind: 3}, {Kind: 4, Index: 1}, {Kind: 5, Index: 1}}, 1), [][]api.Row{{big}})), "(2 1 3 4)")
	is(t, "the last row", dump(Render(bound(second, 1, 1), [][]api.Row{{sum(0, 1)}, {sum(0, 2), big}})), overflow)
	is(t, "the first row", dump(Render(bound(second, 1, 1), [][]api.Row{{big, sum(0, 1)}, {sum(0, 2)}})), overflow)
	is(t, "the last pick", dump(Render(bound(append(slices.Clone(all), second...), 1), [][]api.Row{{big}})), overflow)
	is(t, "the first pick", dump(Render(bound(append(slices.Clone(second), all...), 1), [][]api.Row{{big}})), overflow)
	is(t, "ErrArg is told first", dump(Render(bound(second, 1, 1), [][]api.Row{{big}, {row("", 1)}})), badArg)
	is(t, "ErrArg is told first, of too many groups", dump(Render(bound(second, 1), [][]api.Row{{big}, nil})), badArg)
	is(t, "ErrArg is told first, of a pick", dump(Render(bound([]api.Pick{second[0], {Kind: 7}}, 1), [][]api.Row{{big}})), badArg)
}

func ofText(index, op int, text string) *api.Test {
	return &api.Test{Kind: api.CondCompare, Index: index, Op: op, Texts: []string{text}}
}

func ofInt(index, op int, n int64) *api.Test {
	return &api.Test{Kind: api.CondCompare, Meas: true, Index: index, Op: op, Ints: []int64{n}}
}

func not(l *api.Test) *api.Test { return &api.Test{Kind: api.CondNot, Left: l} }

func TestP152(t *testing.T) {
	ring := not(nil)
	ring.Left = ring
	great := []api.Fact{fact("x", math.MaxInt64), fact("x", 1), fact("y", math.MinInt64), fact("y", -1), fact("z", 1)}
	for _, c := range []struct {
		what  string
		facts []api.Fact
		meas  int
		where *api.Test
		sets  []int
		want  string
	}{
		{"by a", small(), 1, nil, []int{1}, `("x" 2 4 1 3 0) ("y" 1 2 2 2 0)`},
		{"by b", small(), 1, nil, []int{2}, `(- 2 3 1 2 1) (- 1 3 3 3 1)`},
		{"by a, b, and none", small(), 1, nil, []int{1, 2, 0}, `("x" 2 4 1 3 0) ("y" 1 2 2 2 0) (- 2 3 1 2 1) (- 1 3 3 3 1) (- 3 6 1 3 1)`},
		{"a set twice", small(), 1, nil, []int{1, 1}, `("x" 2 4 1 3 0) ("y" 1 2 2 2 0) ("x" 2 4 1 3 0) ("y" 1 2 2 2 0)`},
		{"no sets", small(), 1, nil, nil, ""},
		{"by what no fact has", small(), 1, nil, []int{4, 5}, ""},
		{"some lack a dimension", []api.Fact{fact("x p", 1), fact("y", 2), {}}, 1, nil, []int{3, 1, 0}, `("x" 1 1 1 1 0) ("x" 1 1 1 1 0) ("y" 1 2 2 2 0) (- 3 3 1 2 1)`},
		{"some lack a measure", []api.Fact{fact("x"), fact("y", 2)}, 1, nil, []int{1, 0}, `("x" 1 - - - 0) ("y" 1 2 2 2 0) (- 2 2 2 2 1)`},
		{"without measures", small(), 0, nil, []int{1}, `("x" 2 - - - 0) ("y" 1 - - - 0)`},
		{"meas below 0", small(), math.MinInt, nil, []int{1}, `("x" 2 - - - 0) ("y" 1 - - - 0)`},
		{"the greatest meas", small(), math.MaxInt, nil, []int{0}, `(- 3 6 1 3 1)`},
		{"of those with x", small(), 1, ofText(0, api.Equal, "x"), []int{2, 0}, `(- 1 1 1 1 1) (- 1 3 3 3 1) (- 2 4 1 3 1)`},
		{"of those above 1", small(), 1, ofInt(0, api.Greater, 1), []int{1}, `("x" 1 3 3 3 0) ("y" 1 2 2 2 0)`},
		{"of none", small(), 1, ofText(0, api.Equal, "z"), []int{1, 0, 3}, `(- 0 - - - 1)`},
		{"a zero test", small(), 1, &api.Test{}, []int{1, 0}, `(- 0 - - - 1)`},
		{"a ring", small(), 1, ring, []int{1, 0}, `(- 0 - - - 1)`},
		{"no facts", nil, 1, nil, []int{1, 0, 3, 0}, `(- 0 - - - 1) (- 0 - - - 1)`},
		{"too great for x", great, 1, nil, []int{1}, overflow},
		{"too great for one", great, 1, ofText(0, api.Unequal, "x"), []int{1}, overflow},
		{"together not too great", great, 1, nil, []int{0}, `(- 5 0 -9223372036854775808 9223372036854775807 1)`},
		{"the other way", great, 1, ofText(0, api.Greater, "y"), []int{1}, `("z" 1 1 1 1 0)`},
		{"too great for the last set", great, 1, ofText(0, api.Equal, "x"), []int{2, 0}, overflow},
	} {
		b := bound(all, c.sets...)
		b.Where = c.where
		is(t, c.what, cellsOnly(Answer(b, c.facts, c.meas)), c.want)
	}
	four := []api.Pick{{Kind: 3, Index: 3}, {Kind: 4, Index: 2}, {Kind: 5, Index: 1}, {Kind: 3, Index: 4}}
	is(t, "of four measures", cellsOnly(Answer(bound(four, 0), []api.Fact{fact("x", 1, 2, 3, 4, 5), fact("x", 10, 20, 30, 40, 50)}, 5)), "(44 3 20 -)")
	is(t, "of three of them", cellsOnly(Answer(bound(four, 0), []api.Fact{fact("x", 1, 2, 3, 4, 5), fact("x", 10, 20, 30, 40, 50)}, 3)), "(- 3 20 -)")
}

// Answer is Render of what group says of each set.
func TestP152Render(t *testing.T) {
	b := bound(all, 3, 1, 0, 4, 2)
	b.Where = ofInt(0, api.Less, 3)
	groups := [][]api.Row{}
	for _, set := range b.Sets {
		groups = append(groups, group.Sort(small(), b.Where, set, 1))
	}
	is(t, "the same", dump(Answer(b, small(), 1)), dump(Render(b, groups)))
}

func TestP153Same(t *testing.T) {
	made := func() api.Result {
		return api.Result{Columns: []string{"a", "b"}, Rows: [][]api.Cell{{{Kind: api.Text, Text: "x"}, {Kind: api.Int, Int: 5}}, {{}, {Kind: api.Int}}}}
	}
	is(t, "the same", Same(made(), made()), true)
	is(t, "nothing", Same(api.Result{}, api.Result{}), true)
	is(t, "nil and empty", Same(api.Result{}, api.Result{Columns: []string{}, Rows: [][]api.Cell{}}), true)
	is(t, "nil and empty rows", Same(api.Result{Rows: [][]api.Cell{nil}}, api.Result{Rows: [][]api.Cell{{}}}), true)
	for what, change := range map[string]func(r *api.Result){
		"a name":              func(r *api.Result) { r.Columns[1] = "c" },
		"the first name":      func(r *api.Result) { r.Columns[0] = "A" },
		"a name less":         func(r *api.Result) { r.Columns = r.Columns[:1] },
		"a name more":         func(r *api.Result) { r.Columns = append(r.Columns, "") },
		"no names":            func(r *api.Result) { r.Columns = nil },
		"names turned round":  func(r *api.Result) { slices.Reverse(r.Columns) },
		"names joined":        func(r *api.Result) { r.Columns = []string{"ab"} },
		"a row less":          func(r *api.Result) { r.Rows = r.Rows[:1] },
		"the first row less":  func(r *api.Result) { r.Rows = r.Rows[1:] },
		"a row more":          func(r *api.Result) { r.Rows = append(r.Rows, nil) },
		"no rows":             func(r *api.Result) { r.Rows = nil },
		"rows turned round":   func(r *api.Result) { slices.Reverse(r.Rows) },
		"a cell less":         func(r *api.Result) { r.Rows[1] = r.Rows[1][:1] },
		"a cell more":         func(r *api.Result) { r.Rows[0] = append(r.Rows[0], api.Cell{}) },
		"a cell in the other": func(r *api.Result) { r.Rows = [][]api.Cell{{r.Rows[0][0]}, {r.Rows[0][1], r.Rows[1][0], r.Rows[1][1]}} },
		"cells turned round":  func(r *api.Result) { slices.Reverse(r.Rows[0]) },
		"a text":              func(r *api.Result) { r.Rows[0][0].Text = "y" },
		"a text of an Int":    func(r *api.Result) { r.Rows[1][1].Text = "0" },
		"a number":            func(r *api.Result) { r.Rows[0][1].Int++ },
		"a number of a Text":  func(r *api.Result) { r.Rows[0][0].Int++ },
		"a number of a Null":  func(r *api.Result) { r.Rows[1][0].Int++ },
		"a kind":              func(r *api.Result) { r.Rows[1][1].Kind = api.Null },
		"no kind":             func(r *api.Result) { r.Rows[1][0].Kind = 3 },
		"a kind with a text":  func(r *api.Result) { r.Rows[0][0].Kind = api.Int },
	} {
		b := made()
		change(&b)
		is(t, what, fmt.Sprint(Same(made(), b), Same(b, made()), Same(b, b)), "false false true")
	}
}

func TestP153Text(t *testing.T) {
	text := func(s string) api.Cell { return api.Cell{Kind: api.Text, Text: s} }
	number := func(n int64) api.Cell { return api.Cell{Kind: api.Int, Int: n} }
	for _, c := range []struct {
		what string
		r    api.Result
		want string
	}{
		{"nothing", api.Result{}, "\n"},
		{"a name", api.Result{Columns: []string{"a"}}, "a\n"},
		{"names", api.Result{Columns: []string{"a", "COUNT(*)", "b"}}, "a|COUNT(*)|b\n"},
		{"names as they are", api.Result{Columns: []string{"", "it's", "a|b\n", ""}}, "|it's|a|b\n|\n"},
		{"a row without cells", api.Result{Rows: [][]api.Cell{nil, {}}}, "\n\n\n"},
		{"a Null", api.Result{Rows: [][]api.Cell{{{}}, {{}, {}, {}}}}, "\n\n||\n"},
		{"numbers", api.Result{Rows: [][]api.Cell{{number(0), number(-1), number(10), number(math.MaxInt64), number(math.MinInt64)}}}, "\n0|-1|10|9223372036854775807|-9223372036854775808\n"},
		{"texts", api.Result{Rows: [][]api.Cell{{text(""), text("a"), text("it's"), text("''")}, {text("|"), text("\n"), text("\x00\xff\"\\é")}}}, "\n''|'a'|'it''s'|''''''\n'|'|'\n'|'\x00\xff\"\\é'\n"},
		{"what a kind doesn't mean", api.Result{Rows: [][]api.Cell{{{Int: 5, Text: "x"}, {Kind: api.Int, Text: "x"}, {Kind: api.Text, Int: 5}}}}, "\n|0|''\n"},
		{"no kinds", api.Result{Rows: [][]api.Cell{{{Kind: 3, Int: 5, Text: "x"}, {Kind: -1, Int: 5, Text: "x"}, number(1)}}}, "\n||1\n"},
		{"other numbers of cells", api.Result{Columns: []string{"a", "b"}, Rows: [][]api.Cell{{number(1)}, {number(1), number(2), {}}, {{}, text("x")}}}, "a|b\n1\n1|2|\n|'x'\n"},
	} {
		is(t, c.what, Text(c.r), c.want)
	}
}

// A text stands as lex has it in quotes.
func TestP153Quote(t *testing.T) {
	l := []string{"", "'", "''", "'''", "a'", "'a", "a''b'c", "\x00", "\xff'\xff", "é'", strings.Repeat("'", 1000), strings.Repeat("x", 1000)}
	for sign := range 256 {
		l = append(l, string([]byte{byte(sign)}), string([]byte{byte(sign), '\'', byte(sign)}))
	}
	for _, s := range l {
		r := api.Result{Columns: []string{"a"}, Rows: [][]api.Cell{{{Kind: api.Text, Text: s}}}}
		is(t, fmt.Sprintf("%q", s), Text(r), "a\n"+lex.Quote(s)+"\n")
	}
}

// spoil changes all that a result has, and what lies behind it.
func spoil(r api.Result) {
	for i := range r.Columns {
		r.Columns[i] = "spoilt"
	}
	for i := range r.Rows {
		spoilRow(r.Rows[i])
		r.Rows[i] = nil
	}
	_ = append(r.Columns[:len(r.Columns):cap(r.Columns)], "spoilt")
	for i := len(r.Columns); i < cap(r.Columns); i++ {
		r.Columns[:cap(r.Columns)][i] = "spoilt"
	}
}

func spoilRow(l []api.Cell) {
	for i := range l[:cap(l)] {
		l[:cap(l)][i] = api.Cell{Kind: 9, Text: "spoilt"}
	}
}

// apart spoils each row, and holds all else against what it was.
func apart(t *testing.T, what string, r api.Result) {
	t.Helper()
	for i := range r.Rows {
		rest := api.Result{Columns: r.Columns, Rows: r.Rows[i+1:]}
		want := dump(rest, api.OK)
		spoilRow(r.Rows[i])
		is(t, fmt.Sprint(what, ": behind row ", i), dump(rest, api.OK), want)
	}
}

func TestMemory(t *testing.T) {
	picks, names := slices.Clone(all), key("1 2 3 4 5 6")
	b := api.Bound{Picks: picks, Names: append(names, "behind")[:6], Where: ofInt(0, api.Less, 9), Sets: []int{3, 1, 0}}
	facts := small()
	groups := [][]api.Row{group.Hash(facts, nil, 3, 1), group.Hash(facts, nil, 1, 1), nil}
	before := fmt.Sprint(bind.Key(b), facts, groups)
	for what, do := range map[string]func() (api.Result, api.Errno){
		"Answer": func() (api.Result, api.Errno) { return Answer(b, facts, 1) },
		"Render": func() (api.Result, api.Errno) { return Render(b, groups) },
	} {
		first, _ := do()
		want := dump(first, api.OK)
		second, _ := do()
		spoil(second)
		is(t, what+": what was handed in", fmt.Sprint(bind.Key(b), facts, groups), before)
		is(t, what+": behind the names", b.Names[:cap(b.Names)][6], "behind")
		is(t, what+": the other one", dump(first, api.OK), want)
		third, _ := do()
		is(t, what+": the next one", dump(third, api.OK), want)
		apart(t, what, third)
	}
	r, _ := Answer(b, facts, 1)
	s, _ := Render(b, groups)
	want := dump(r, api.OK) + dump(s, api.OK)
	for i := range facts {
		facts[i].Dims[0], facts[i].Meas[0] = "spoilt", 99
	}
	for _, rows := range groups {
		for i := range rows {
			rows[i].Key[0], rows[i].Acc.Parts[0] = "spoilt", wrong
		}
	}
	b.Names[0], b.Picks[0], b.Sets[0], b.Where.Ints[0] = "spoilt", api.Pick{}, 99, 0
	is(t, "what was told", dump(r, api.OK)+dump(s, api.OK), want)
}

// What is told of a result leaves it as it is.
func TestMemoryBeside(t *testing.T) {
	made := func() api.Result {
		return api.Result{Columns: []string{"a"}, Rows: [][]api.Cell{{{Kind: api.Text, Text: "it's"}}, {{}}}}
	}
	r, s := made(), made()
	first := Text(r)
	is(t, "Same", Same(r, s), true)
	is(t, "as it was", dump(r, api.OK)+dump(s, api.OK), strings.Repeat(dump(made(), api.OK), 2))
	spoil(r)
	is(t, "the text", first, "a\n'it''s'\n\n")
}
