package cube

import (
	"fmt"
	"math"
	"slices"
	"strings"
	"testing"

	"caisson/api"
	"caisson/bind"
	"caisson/parse"
)

func is(t *testing.T, what string, got, want any) {
	t.Helper()
	if g, w := fmt.Sprint(got), fmt.Sprint(want); g != w {
		t.Errorf("%.300s: %.600s, want %.600s", what, g, w)
	}
}

// great is a schema that has all that may be.
var great = api.Schema{Dims: strings.Split("abcdef", ""), Meas: strings.Split("mnop", "")}

// bound is a query of its text.
func bound(t *testing.T, text string) api.Bound {
	t.Helper()
	q, f := parse.Parse(text)
	b, e := bind.Bind(great, q)
	if f.Code != api.OK || e != api.OK {
		t.Fatal(text, f, e)
	}
	return b
}

// needOf is what Need says of a query, as a text.
func needOf(b api.Bound) string { return fmt.Sprint(Need(b)) }

// beside are numbers that are no sets.
var beside = []int{-1, -2, -63, -64, -65, 64, 65, 66, 68, 72, 80, 96, 127, 128, 1 << 31, 1 << 32, 1<<32 + 1, 1 << 62, math.MaxInt, math.MinInt, math.MinInt + 1}

func TestExamples(t *testing.T) {
	is(t, "Need", needOf(bound(t, "SELECT a FROM facts WHERE c = 'x' GROUP BY ROLLUP(a, b)")), "7 false")
	is(t, "Covers(7, 5)", Covers(7, 5), true)
	is(t, "Covers(5, 7)", Covers(5, 7), false)
	is(t, "Covers(64, 0)", Covers(64, 0), false)
	is(t, "All(2)", All(2), "[3 1 2 0]")
	is(t, "Parents(1, 3)", Parents(1, 3), "[3 5]")
	is(t, "Children(7)", Children(7), "[3 5 6]")
	is(t, "Between(1, 7)", Between(1, 7), "[1 3 5 7]")
	is(t, "Bound(3, 4 5, 9)", Bound(3, []int{4, 5}, 9), 9)
	is(t, "Bound(3, 1 5, 9)", Bound(3, []int{1, 5}, 9), 5)
	is(t, "Bound(0, none, 9)", Bound(0, nil, 9), 1)
	is(t, "Bound(0, none, 0)", Bound(0, nil, 0), 0)
	is(t, "Least(7 3 1, 50 20 9, 2)", Least([]int{7, 3, 1}, []int{50, 20, 9}, 2), 1)
	is(t, "Least(7 3 1, 50 20 9, 4)", Least([]int{7, 3, 1}, []int{50, 20, 9}, 4), 0)
	is(t, "Least(3, 9, 4)", Least([]int{3}, []int{9}, 4), -1)
}

func TestP161Need(t *testing.T) {
	for _, c := range [][2]string{
		{"SELECT COUNT(*) FROM facts", "0 false"},
		{"SELECT COUNT(*), SUM(m), MIN(p) FROM facts", "0 false"},
		{"SELECT a FROM facts GROUP BY a", "1 false"},
		{"SELECT COUNT(*) FROM facts GROUP BY f", "32 false"},
		{"SELECT COUNT(*) FROM facts GROUP BY GROUPING SETS(())", "0 false"},
		{"SELECT COUNT(*) FROM facts GROUP BY GROUPING SETS((), (b, c), (f), (b))", "38 false"},
		{"SELECT d FROM facts GROUP BY CUBE(d, e), a", "25 false"},
		{"SELECT COUNT(*) FROM facts GROUP BY CUBE(a, b, c, d, e, f)", "63 false"},
		{"SELECT COUNT(*) FROM facts WHERE d = 'x'", "8 false"},
		{"SELECT COUNT(*) FROM facts WHERE NOT (f IN ('x', 'y') OR b <> 'x') AND a < 'z'", "35 false"},
		{"SELECT b FROM facts WHERE b = 'x' GROUP BY b", "2 false"},
		{"SELECT b FROM facts WHERE b = 'x' OR e >= '' GROUP BY b, c", "22 false"},
		{"SELECT COUNT(*) FROM facts WHERE m = 1", "0 true"},
		{"SELECT COUNT(*) FROM facts WHERE a = 'x' AND NOT p IN (1, 2) GROUP BY f", "33 true"},
		{"SELECT SUM(n) FROM facts WHERE b = 'x' OR c = 'y' AND n > 0 GROUP BY ROLLUP(c, d)", "14 true"},
	} {
		is(t, c[0], needOf(bound(t, c[0])), c[1])
	}
}

// Need asks nothing of Picks and Names; what is no set is passed over, what is no test's column too.
func TestP161NeedBeside(t *testing.T) {
	is(t, "nothing", needOf(api.Bound{}), "0 false")
	is(t, "items alone", needOf(api.Bound{Picks: []api.Pick{{Kind: api.ItemColumn, Index: 3}, {Kind: api.ItemSum}}, Names: []string{"d", "SUM(m)"}}), "0 false")
	is(t, "no sets", needOf(api.Bound{Sets: beside}), "0 false")
	is(t, "no sets beside some", needOf(api.Bound{Sets: slices.Concat([]int{4}, beside, []int{0, 33, 4})}), "37 false")
	for set := range 64 {
		is(t, fmt.Sprint("the set ", set), needOf(api.Bound{Sets: []int{set}}), fmt.Sprint(set, false))
	}
	many := slices.Repeat([]int{1, 16}, 100000)
	is(t, "many sets", needOf(api.Bound{Sets: append(many, 8)}), "25 false")

	x := []string{"x"}
	asks := func(index int) *api.Test {
		return &api.Test{Kind: api.CondCompare, Op: api.Equal, Index: index, Texts: x}
	}
	number := &api.Test{Kind: api.CondIn, Meas: true, Index: 99}
	for _, c := range []struct {
		what  string
		where *api.Test
		want  string
	}{
		{"dimension 5", asks(5), "33 false"},
		{"dimension 6", asks(6), "1 false"},
		{"dimension -1", asks(-1), "1 false"},
		{"dimension 64", asks(64), "1 false"},
		{"without a sign and values", &api.Test{Kind: api.CondCompare, Index: 2}, "5 false"},
		{"a measure that is none, without values", number, "1 true"},
		{"to the Right of a NOT", &api.Test{Kind: api.CondNot, Left: asks(1), Right: asks(4)}, "19 false"},
		{"below no kind", &api.Test{Left: asks(1), Right: number}, "3 true"},
		{"below a comparison", &api.Test{Kind: api.CondCompare, Index: 3, Left: asks(1), Right: number}, "9 false"},
	} {
		is(t, c.what, needOf(api.Bound{Where: c.where, Sets: []int{1}}), c.want)
	}
}

// A test that is too great reads all.
func TestP161NeedGreat(t *testing.T) {
	ring := &api.Test{Kind: api.CondNot}
	ring.Left = ring
	is(t, "a ring", needOf(api.Bound{Where: ring, Sets: []int{1}}), "63 true")
	wide := &api.Test{Kind: api.CondIn, Index: 1, Texts: []string{"x"}}
	for range 11 {
		wide = &api.Test{Kind: api.CondOr, Left: wide, Right: wide}
	}
	is(t, "4095 nodes", needOf(api.Bound{Where: wide, Sets: []int{1}}), "3 false")
	is(t, "4096 nodes", needOf(api.Bound{Where: &api.Test{Kind: api.CondNot, Left: wide}}), "2 false")
	is(t, "4097 nodes", needOf(api.Bound{Where: &api.Test{Kind: api.CondAnd, Left: wide, Right: wide.Left.Left.Left.Left.Left.Left.Left.Left.Left.Left}}), "63 true")
}

func TestP161Covers(t *testing.T) {
	for _, c := range []struct {
		view, need int
		want       bool
	}{
		{0, 0, true}, {63, 63, true}, {63, 0, true}, {0, 63, false}, {1, 0, true}, {0, 1, false}, {2, 1, false}, {1, 2, false},
		{6, 4, true}, {6, 5, false}, {32, 32, true}, {31, 32, false}, {32, 31, false}, {62, 33, false},
	} {
		is(t, fmt.Sprint(c.view, " and ", c.need), Covers(c.view, c.need), c.want)
	}
	for _, no := range beside {
		is(t, fmt.Sprint(no, " and itself"), Covers(no, no), false)
		for set := range 64 {
			is(t, fmt.Sprint(no, " and ", set), Covers(no, set), false)
			is(t, fmt.Sprint(set, " and ", no), Covers(set, no), false)
		}
	}
}

func TestP162All(t *testing.T) {
	for dims, want := range []string{
		"[0]",
		"[1 0]",
		"[3 1 2 0]",
		"[7 3 5 6 1 2 4 0]",
		"[15 7 11 13 14 3 5 6 9 10 12 1 2 4 8 0]",
		"[31 15 23 27 29 30 7 11 13 14 19 21 22 25 26 28 3 5 6 9 10 12 17 18 20 24 1 2 4 8 16 0]",
		"[63 31 47 55 59 61 62 15 23 27 29 30 39 43 45 46 51 53 54 57 58 60 7 11 13 14 19 21 22 25 26 28 35 37 38 41 42 44 49 50 52 56 3 5 6 9 10 12 17 18 20 24 33 34 36 40 48 1 2 4 8 16 32 0]",
	} {
		is(t, fmt.Sprint("All of ", dims), All(dims), want)
	}
	for _, dims := range []int{-1, -2, -6, -64, math.MinInt} {
		is(t, fmt.Sprint("All of ", dims), All(dims), "[0]")
	}
	for _, dims := range []int{7, 8, 62, 63, 64, 65, 1 << 32, math.MaxInt} {
		is(t, fmt.Sprint("All of ", dims), All(dims), fmt.Sprint(All(6)))
	}
}

func TestP162Parents(t *testing.T) {
	for _, c := range []struct {
		set, dims int
		want      string
	}{
		{0, 0, "[]"}, {0, 1, "[1]"}, {0, 3, "[1 2 4]"}, {0, 6, "[1 2 4 8 16 32]"}, {0, 7, "[1 2 4 8 16 32]"}, {0, math.MaxInt, "[1 2 4 8 16 32]"},
		{0, -1, "[]"}, {0, math.MinInt, "[]"}, {1, 0, "[]"}, {1, -1, "[]"}, {1, 1, "[]"}, {1, 2, "[3]"}, {2, 2, "[3]"}, {2, 1, "[]"},
		{5, 3, "[7]"}, {5, 2, "[]"}, {5, 6, "[7 13 21 37]"}, {4, 3, "[5 6]"}, {4, 2, "[]"}, {32, 5, "[]"}, {32, 6, "[33 34 36 40 48]"}, {31, 6, "[63]"}, {31, 5, "[]"},
		{62, 6, "[63]"}, {63, 6, "[]"}, {63, 99, "[]"}, {7, 3, "[]"}, {8, 3, "[]"}, {9, 3, "[]"},
	} {
		is(t, fmt.Sprint("Parents of ", c.set, " below ", c.dims), Parents(c.set, c.dims), c.want)
	}
	for _, no := range beside {
		for _, dims := range []int{-1, 0, 3, 6, 7, 64} {
			is(t, fmt.Sprint("Parents of ", no, " below ", dims), Parents(no, dims), "[]")
		}
	}
}

func TestP162Children(t *testing.T) {
	for set, want := range map[int]string{
		0: "[]", 1: "[0]", 2: "[0]", 32: "[0]", 3: "[1 2]", 5: "[1 4]", 33: "[1 32]", 48: "[16 32]", 22: "[6 18 20]", 15: "[7 11 13 14]", 63: "[31 47 55 59 61 62]", 62: "[30 46 54 58 60]",
	} {
		is(t, fmt.Sprint("Children of ", set), Children(set), want)
	}
	for _, no := range beside {
		is(t, fmt.Sprint("Children of ", no), Children(no), "[]")
	}
}

func TestP162Between(t *testing.T) {
	for _, c := range []struct {
		low, high int
		want      string
	}{
		{0, 0, "[0]"}, {63, 63, "[63]"}, {5, 5, "[5]"}, {0, 5, "[0 1 4 5]"}, {4, 5, "[4 5]"}, {1, 5, "[1 5]"}, {2, 5, "[]"}, {2, 1, "[]"}, {5, 4, "[]"}, {63, 0, "[]"}, {31, 32, "[]"},
		{32, 63, "[32 33 34 35 36 37 38 39 40 41 42 43 44 45 46 47 48 49 50 51 52 53 54 55 56 57 58 59 60 61 62 63]"}, {34, 43, "[34 35 42 43]"}, {28, 62, "[28 30 60 62]"},
	} {
		is(t, fmt.Sprint("between ", c.low, " and ", c.high), Between(c.low, c.high), c.want)
	}
	for _, no := range beside {
		for set := range 64 {
			is(t, fmt.Sprint("between ", set, " and ", no), Between(set, no), "[]")
			is(t, fmt.Sprint("between ", no, " and ", set), Between(no, set), "[]")
		}
		is(t, fmt.Sprint("between ", no, " and itself"), Between(no, no), "[]")
	}
}

func TestP163Bound(t *testing.T) {
	six := []int{2, 3, 5, 7, 11, 13}
	for _, c := range []struct {
		set    int
		counts []int
		facts  int
		want   int
	}{
		{63, six, 1 << 20, 30030}, {63, six, 30031, 30030}, {63, six, 30030, 30030}, {63, six, 30029, 30029}, {63, six, 0, 0}, {63, six, -1, 0}, {63, six, math.MinInt, 0},
		{1, six, 99, 2}, {32, six, 99, 13}, {33, six, 99, 26}, {20, six, 99, 55}, {20, six, 54, 54},
		// the empty set, and what is no set
		{0, six, 99, 1}, {0, nil, 1, 1}, {0, []int{0, 0, 0, 0, 0, 0}, 99, 1}, {0, nil, -1, 0}, {0, nil, math.MaxInt, 1},
		{64, six, 99, 1}, {65, six, 99, 1}, {-1, six, 99, 1}, {-1, nil, 99, 1}, {127, []int{0}, 99, 1}, {64, six, 0, 0}, {-1, six, -1, 0}, {math.MinInt, six, 2, 1}, {math.MaxInt, six, 2, 1},
		// missing, below 0, and more than there are dimensions
		{1, nil, 99, 0}, {2, []int{5}, 99, 0}, {3, []int{5}, 99, 0}, {1, []int{5}, 99, 5}, {63, six[:5], 99, 0}, {31, six[:5], 9999, 2310},
		{1, []int{0}, 99, 0}, {1, []int{-1}, 99, 0}, {3, []int{-2, -3}, 99, 0}, {3, []int{math.MinInt, math.MinInt}, 99, 0}, {3, []int{-1, math.MaxInt}, 99, 0}, {2, []int{-1, 4}, 99, 4}, {1, []int{4, -1}, 99, 4},
		{63, append(slices.Clone(six), 17, 0, -1), 1 << 20, 30030},
		// above 2^62
		{3, []int{1 << 31, 1 << 31}, math.MaxInt, 1 << 62}, {3, []int{1<<31 - 1, 1 << 31}, math.MaxInt, 1<<62 - 1<<31}, {3, []int{1<<31 + 1, 1 << 31}, math.MaxInt, 1 << 62},
		{3, []int{1 << 32, 1 << 32}, math.MaxInt, 1 << 62}, {3, []int{1 << 40, 1 << 40}, 1 << 62, 1 << 62}, {3, []int{1 << 40, 1 << 40}, 1<<62 - 1, 1<<62 - 1}, {3, []int{1 << 40, 1 << 40}, 7, 7},
		{1, []int{1 << 62}, math.MaxInt, 1 << 62}, {1, []int{1<<62 - 1}, math.MaxInt, 1<<62 - 1}, {1, []int{1<<62 + 1}, math.MaxInt, 1 << 62}, {1, []int{math.MaxInt}, math.MaxInt, 1 << 62}, {1, []int{math.MaxInt}, 9, 9},
		{3, []int{1 << 61, 2}, math.MaxInt, 1 << 62}, {3, []int{1 << 61, 3}, math.MaxInt, 1 << 62}, {3, []int{3, 1 << 61}, math.MaxInt, 1 << 62}, {3, []int{1 << 62, 1}, math.MaxInt, 1 << 62},
		{3, []int{3037000499, 1518500249}, math.MaxInt, 3037000499 * 1518500249}, {3, []int{3, 1537228672809129301}, math.MaxInt, 1<<62 - 1}, {3, []int{3, 1537228672809129302}, math.MaxInt, 1 << 62},
		{3, []int{1537228672809129302, 3}, math.MaxInt, 1 << 62}, {3, []int{1537228672809129301, 3}, math.MaxInt, 1<<62 - 1},
		{7, []int{1 << 40, 1 << 40, 0}, math.MaxInt, 0}, {7, []int{0, 1 << 40, 1 << 40}, math.MaxInt, 0}, {7, []int{1 << 40, 1 << 40, -5}, math.MaxInt, 0}, {7, []int{1 << 40, 1 << 40}, math.MaxInt, 0},
		{63, slices.Repeat([]int{math.MaxInt}, 6), math.MaxInt, 1 << 62}, {63, slices.Repeat([]int{1 << 32}, 6), math.MaxInt, 1 << 62},
	} {
		is(t, fmt.Sprint("Bound of ", c.set, ", ", c.counts, ", ", c.facts), Bound(c.set, c.counts, c.facts), c.want)
	}
}

func TestP163Least(t *testing.T) {
	for _, c := range []struct {
		views, sizes []int
		need, want   int
	}{
		{nil, nil, 0, -1}, {nil, []int{1}, 0, -1}, {[]int{0}, nil, 0, -1}, {[]int{0}, []int{9}, 0, 0}, {[]int{0}, []int{9}, 1, -1}, {[]int{63}, []int{9}, 63, 0},
		{[]int{3, 7, 1}, []int{20, 10, 5}, 1, 2}, {[]int{3, 7, 1}, []int{20, 10, 5}, 2, 1}, {[]int{3, 7, 1}, []int{10, 20, 5}, 2, 0}, {[]int{3, 7, 1}, []int{10, 20, 5}, 8, -1},
		// as great: the one ahead
		{[]int{3, 7, 3}, []int{5, 5, 5}, 1, 0}, {[]int{4, 7, 3}, []int{5, 5, 5}, 1, 1}, {[]int{7, 3, 1}, []int{6, 5, 5}, 1, 1}, {[]int{7, 7, 7}, []int{5, 4, 4}, 7, 1},
		// sizes of whatever number
		{[]int{3, 7, 1}, []int{0, -1, math.MinInt}, 1, 2}, {[]int{3, 7}, []int{0, -1}, 1, 1}, {[]int{3, 7}, []int{math.MaxInt, math.MaxInt}, 1, 0}, {[]int{1, 3}, []int{math.MinInt, math.MaxInt}, 3, 1},
		{[]int{1, 3}, []int{0, 0}, 1, 0},
		// more views than sizes, more sizes than views
		{[]int{3, 7, 1}, []int{20, 10}, 1, 1}, {[]int{3, 7, 1}, []int{20}, 1, 0}, {[]int{3, 7, 1}, []int{20, 10}, 4, 1}, {[]int{3, 7, 1}, []int{20}, 4, -1}, {[]int{3, 7}, []int{20, 10, 5}, 1, 1},
		// no sets
		{[]int{64, 65, -1, 1}, []int{1, 1, 1, 9}, 1, 3}, {[]int{64, 127, -1}, []int{1, 1, 1}, 0, -1}, {[]int{63, 64, -1}, []int{1, 1, 1}, 64, -1}, {[]int{63, -1}, []int{1, 1}, -1, -1},
		{[]int{63}, []int{1}, math.MinInt, -1}, {[]int{math.MaxInt, 63}, []int{1, 2}, 5, 1},
	} {
		is(t, fmt.Sprint("Least of ", c.views, ", ", c.sizes, ", ", c.need), Least(c.views, c.sizes, c.need), c.want)
	}
	views, sizes := slices.Repeat([]int{1}, 200000), slices.Repeat([]int{5}, 200000)
	sizes[150000], sizes[190000] = 4, 4
	is(t, "many", Least(views, sizes, 1), 150000)
	is(t, "many, none", Least(views, sizes, 2), -1)
}

// What is handed in stays, and what is told is its owner's alone.
func TestR3Apart(t *testing.T) {
	counts, views, sizes := []int{-4, 5, 6, 7, 8, 9, 10}, []int{64, 1, 3}, []int{-1, 9, 3}
	b := bound(t, "SELECT a FROM facts WHERE c = 'x' GROUP BY ROLLUP(a, b)")
	Need(b)
	Bound(63, counts, 9)
	Least(views, sizes, 1)
	is(t, "handed in", fmt.Sprint(counts, views, sizes, b.Sets, *b.Where), "[-4 5 6 7 8 9 10] [64 1 3] [-1 9 3] [3 1 0] {4 <nil> <nil> false 2 1 [x] []}")
	for what, call := range map[string]func() []int{
		"All":      func() []int { return All(6) },
		"Parents":  func() []int { return Parents(8, 6) },
		"Children": func() []int { return Children(61) },
		"Between":  func() []int { return Between(8, 61) },
	} {
		first, second := call(), call()
		want := fmt.Sprint(second)
		clear(first)
		_ = append(first[:1], 99)
		is(t, what+", told beside", second, want)
		is(t, what+", told again", call(), want)
	}
}
