package bind

import (
	"fmt"
	"math"
	"runtime/debug"
	"slices"
	"strings"
	"testing"

	"caisson/api"
)

func ofText(kind, index, op int, texts ...string) *api.Test {
	return &api.Test{Kind: kind, Index: index, Op: op, Texts: texts}
}

func ofInt(kind, index, op int, ints ...int64) *api.Test {
	return &api.Test{Kind: kind, Meas: true, Index: index, Op: op, Ints: ints}
}

func node(kind int, below ...*api.Test) *api.Test {
	t := &api.Test{Kind: kind, Left: below[0]}
	if len(below) > 1 {
		t.Right = below[1]
	}
	return t
}

func and(l, r *api.Test) *api.Test { return node(api.CondAnd, l, r) }

func or(l, r *api.Test) *api.Test { return node(api.CondOr, l, r) }

func not(l *api.Test) *api.Test { return node(api.CondNot, l) }

// holding and failing are tests, one that holds for each fact that has dimension 0, one for none.
var (
	holding = ofText(api.CondCompare, 0, api.AtLeast, "")
	failing = ofText(api.CondCompare, 0, api.Less, "")
)

// one is a fact of two dimensions and two measures.
var one = api.Fact{Dims: []string{"x", "yy"}, Meas: []int64{-3, 9}}

// want is whether what is below, at or above 0 is as a sign says.
func want(op, order int) bool {
	return strings.Contains([]string{"", "=", "<>", "<", "<=", ">", ">="}[op], "<=>"[order+1:order+2])
}

func TestP123Texts(t *testing.T) {
	l := []string{"", "\x00", " ", "A", "B", "a", "a\x00", "aa", "ab", "b", "z", "\x7f", "\x80", "é", "\xff", "\xff\xff", strings.Repeat("\xff", 64)}
	for op := range 7 {
		for i, a := range l {
			for j, b := range l {
				order := min(max(i-j, -1), 1)
				f := api.Fact{Dims: []string{"other", a}, Meas: []int64{0, 0}}
				is(t, fmt.Sprintf("%q %d %q", a, op, b), Holds(ofText(api.CondCompare, 1, op, b), f), op > 0 && want(op, order))
				is(t, fmt.Sprintf("%q %d %q, and more", a, op, b), Holds(ofText(api.CondCompare, 1, op, b, a, a), f), op > 0 && want(op, order))
			}
		}
	}
}

func TestP123Ints(t *testing.T) {
	l := []int64{math.MinInt64, math.MinInt64 + 1, -1 << 32, -10, -9, -1, 0, 1, 2, 9, 10, 1 << 31, 1 << 53, 1<<53 + 1, math.MaxInt64 - 1, math.MaxInt64}
	for op := range 7 {
		for i, a := range l {
			for j, b := range l {
				order := min(max(i-j, -1), 1)
				f := api.Fact{Dims: []string{"", ""}, Meas: []int64{7, a}}
				is(t, fmt.Sprintf("%d %d %d", a, op, b), Holds(ofInt(api.CondCompare, 1, op, b), f), op > 0 && want(op, order))
				is(t, fmt.Sprintf("%d %d %d, and more", a, op, b), Holds(ofInt(api.CondCompare, 1, op, b, a, a), f), op > 0 && want(op, order))
			}
		}
	}
}

func TestP123In(t *testing.T) {
	many := slices.Repeat([]string{"y"}, 100000)
	for what, c := range map[string]struct {
		test *api.Test
		want bool
	}{
		"the one":             {ofText(api.CondIn, 0, 0, "x"), true},
		"another one":         {ofText(api.CondIn, 1, 0, "x"), false},
		"the last one":        {ofText(api.CondIn, 1, 0, "x", "y", "yy"), true},
		"the first one":       {ofText(api.CondIn, 1, 0, "yy", "y", "x"), true},
		"none of some":        {ofText(api.CondIn, 1, 0, "y", "yyy", "", "YY", "yy "), false},
		"none of many":        {ofText(api.CondIn, 0, 0, many...), false},
		"the last of many":    {ofText(api.CondIn, 0, 0, append(many, "x")...), true},
		"a number":            {ofInt(api.CondIn, 0, 0, -3), true},
		"another number":      {ofInt(api.CondIn, 1, 0, -3), false},
		"the last number":     {ofInt(api.CondIn, 1, 0, 0, -3, 9), true},
		"the first number":    {ofInt(api.CondIn, 1, 0, 9, -3, 0), true},
		"none of the numbers": {ofInt(api.CondIn, 0, 0, 3, 9, math.MinInt64), false},
		// of Op nothing is said
		"with a sign":         {ofText(api.CondIn, 0, api.Unequal, "x"), true},
		"a number and a sign": {ofInt(api.CondIn, 0, api.Greater, -4), false},
	} {
		is(t, what, Holds(c.test, one), c.want)
	}
}

func TestP123Nodes(t *testing.T) {
	all := map[string]*api.Test{"true": holding, "false": failing, "nil": nil, "none": {}}
	holds := map[string]bool{"true": true}
	for left, l := range all {
		is(t, left, Holds(l, one), holds[left])
		for right, r := range all {
			is(t, left+" AND "+right, Holds(and(l, r), one), holds[left] && holds[right])
			is(t, left+" OR "+right, Holds(or(l, r), one), holds[left] || holds[right])
			is(t, "NOT "+left+", "+right+" beside", Holds(node(api.CondNot, l, r), one), l != nil && !holds[left])
			for _, kind := range []int{math.MinInt, -1, 0, 6, 7, math.MaxInt} {
				is(t, fmt.Sprintf("%s %d %s", left, kind, right), Holds(node(kind, l, r), one), false)
			}
			// a test is asked alone, whatever stands below it
			for _, test := range []*api.Test{holding, failing} {
				below := *test
				below.Left, below.Right = l, r
				is(t, dump(&below), Holds(&below, one), test == holding)
			}
		}
	}
	is(t, "NOT of none, turned", Holds(not(not(&api.Test{})), one), false)
}

// What has a kind of its own goes by that alone, whatever else the node has.
func TestP123Beside(t *testing.T) {
	for kind, want := range map[int]bool{api.CondAnd: false, api.CondOr: true, api.CondNot: false} {
		test := *holding
		test.Kind, test.Left, test.Right = kind, holding, failing
		is(t, dump(&test), Holds(&test, one), want)
	}
	for _, kind := range []int{math.MinInt, -4, 0, 6, 44, math.MaxInt} {
		for _, meas := range []bool{false, true} {
			test := &api.Test{Kind: kind, Meas: meas, Op: api.Equal, Texts: []string{"x"}, Ints: []int64{-3}}
			is(t, dump(test), Holds(test, one), false)
			is(t, "NOT "+dump(test), Holds(not(test), one), true)
		}
	}
}

// A test of what a fact doesn't have, or without the values that its kind asks for, or with no sign, does not hold, and NOT of it does.
func TestP123Lacks(t *testing.T) {
	l := []*api.Test{}
	for _, index := range []int{math.MinInt, -2, -1, 2, 3, 63, math.MaxInt} {
		for op := range 7 {
			l = append(l, ofText(api.CondCompare, index, op, "x"), ofInt(api.CondCompare, index, op, 9))
		}
		l = append(l, ofText(api.CondIn, index, 0, "", "x", "yy"), ofInt(api.CondIn, index, 0, 0, -3, 9))
	}
	for op := range 7 {
		l = append(l, ofText(api.CondCompare, 0, op), ofInt(api.CondCompare, 0, op))
		l = append(l, &api.Test{Kind: api.CondCompare, Op: op, Ints: []int64{0, -3}}, &api.Test{Kind: api.CondCompare, Meas: true, Op: op, Texts: []string{"", "x"}})
	}
	l = append(l, ofText(api.CondIn, 0, 0), ofInt(api.CondIn, 0, 0))
	l = append(l, &api.Test{Kind: api.CondIn, Ints: []int64{0, -3}}, &api.Test{Kind: api.CondIn, Meas: true, Texts: []string{"", "x"}})
	for _, op := range []int{math.MinInt, -1, 0, 7, math.MaxInt} {
		l = append(l, ofText(api.CondCompare, 0, op, "x"), ofText(api.CondCompare, 0, op, "a"), ofInt(api.CondCompare, 0, op, -3), ofInt(api.CondCompare, 0, op, 0))
	}
	for _, test := range l {
		is(t, dump(test), Holds(test, one), false)
		is(t, "NOT "+dump(test), Holds(not(test), one), true)
	}
	is(t, "of nothing", Holds(holding, api.Fact{}), false)
	is(t, "of measures alone", Holds(holding, api.Fact{Meas: one.Meas}), false)
	is(t, "of dimensions alone", Holds(ofInt(api.CondIn, 0, 0, -3), api.Fact{Dims: one.Dims}), false)
	is(t, "of measures alone, one of them", Holds(ofInt(api.CondIn, 0, 0, -3), api.Fact{Meas: one.Meas}), true)
}

// A fact may have more than a schema may: what it has is asked.
func TestP123Wide(t *testing.T) {
	f := api.Fact{Dims: some(100, "d"), Meas: make([]int64, 100)}
	f.Meas[99] = 5
	is(t, "dimension 99", Holds(ofText(api.CondCompare, 99, api.Equal, "d99"), f), true)
	is(t, "dimension 100", Holds(ofText(api.CondCompare, 100, api.Unequal, "d99"), f), false)
	is(t, "measure 99", Holds(ofInt(api.CondCompare, 99, api.Greater, 4), f), true)
	is(t, "measure 100", Holds(ofInt(api.CondCompare, 100, api.Less, 4), f), false)
}

// read is what Reads says.
func read(set int, meas bool) string { return fmt.Sprint(set, " ", meas) }

func TestP123Reads(t *testing.T) {
	is(t, "nil", read(Reads(nil)), "0 false")
	for index := range 6 {
		for _, kind := range []int{api.CondCompare, api.CondIn} {
			is(t, fmt.Sprint("dimension ", index), read(Reads(ofText(kind, index, 1, "x"))), read(1<<index, false))
			is(t, fmt.Sprint("dimension ", index, " without values"), read(Reads(&api.Test{Kind: kind, Index: index})), read(1<<index, false))
			is(t, fmt.Sprint("measure ", index), read(Reads(ofInt(kind, index, 1, 1))), "0 true")
		}
	}
	for _, index := range []int{math.MinInt, -64, -1, 6, 7, 63, 64, math.MaxInt} {
		is(t, fmt.Sprint("dimension ", index), read(Reads(ofText(api.CondIn, index, 0, "x"))), "0 false")
		is(t, fmt.Sprint("measure ", index), read(Reads(ofInt(api.CondIn, index, 0, 1))), "0 true")
	}
	dim := func(i int) *api.Test { return ofText(api.CondIn, i, 0, "x") }
	meas := ofInt(api.CondIn, 0, 0, 1)
	for _, kind := range []int{api.CondAnd, api.CondOr, api.CondNot, 0, -1, 6, 99} {
		is(t, fmt.Sprint("both below ", kind), read(Reads(node(kind, dim(0), dim(3)))), "9 false")
		is(t, fmt.Sprint("the same below ", kind), read(Reads(node(kind, dim(2), dim(2)))), "4 false")
		is(t, fmt.Sprint("left below ", kind), read(Reads(node(kind, dim(5), nil))), "32 false")
		is(t, fmt.Sprint("right below ", kind), read(Reads(node(kind, nil, dim(5)))), "32 false")
		is(t, fmt.Sprint("a measure left below ", kind), read(Reads(node(kind, meas, dim(1)))), "2 true")
		is(t, fmt.Sprint("a measure right below ", kind), read(Reads(node(kind, dim(1), meas))), "2 true")
		is(t, fmt.Sprint("nothing below ", kind), read(Reads(node(kind, nil, nil))), "0 false")
		is(t, fmt.Sprint("deeper below ", kind), read(Reads(node(kind, node(kind, nil, dim(4)), node(kind, and(dim(0), dim(1)), nil)))), "19 false")
		// a node that asks nothing has no dimension and no measure
		is(t, fmt.Sprint("fields of ", kind), read(Reads(&api.Test{Kind: kind, Index: 3, Texts: []string{"x"}})), "0 false")
		is(t, fmt.Sprint("fields of ", kind, ", a measure"), read(Reads(&api.Test{Kind: kind, Meas: true, Left: dim(0)})), "1 false")
	}
	for _, kind := range []int{api.CondCompare, api.CondIn} {
		test := ofText(kind, 1, 1, "x")
		test.Left, test.Right = dim(0), and(dim(2), meas)
		is(t, fmt.Sprint("below a test of kind ", kind), read(Reads(test)), "2 false")
		is(t, fmt.Sprint("below a test of kind ", kind, " within"), read(Reads(or(test, dim(5)))), "34 false")
	}
}

// shapes are tests of just so many nodes, each of which holds for one, if it isn't too great.
func shapes(nodes int) map[string]*api.Test {
	l := map[string]*api.Test{}
	left, right := holding, holding
	for n := 1; n+2 <= nodes; n += 2 {
		left, right = and(left, holding), or(holding, right)
	}
	if nodes%2 == 0 {
		left, right = or(left, nil), or(nil, right)
	}
	l["left"], l["right"] = left, right
	// of odd chains NOT turns what holds
	chain := map[bool]*api.Test{true: holding, false: failing}[nodes%2 == 1]
	for range nodes - 1 {
		chain = not(chain)
	}
	l["chain"] = chain
	// what stands where nothing asks it counts too
	below, beside, strange := *holding, *not(failing), node(0, nil, nil)
	below.Right, beside.Right, strange.Left = filler(nodes-1), filler(nodes-2), filler(nodes-2)
	l["below a test"], l["beside a NOT"], l["below no kind"] = &below, &beside, or(holding, nil)
	l["below no kind"].Right = node(0, filler(nodes-3))
	// the same nodes in many places
	l["places"] = places(nodes)
	return l
}

// filler is a chain of so many nodes.
func filler(nodes int) *api.Test {
	var t *api.Test
	for range nodes {
		t = &api.Test{Kind: api.CondIn, Left: t}
	}
	return t
}

// places is a test of so many nodes, which are few in several places each.
func places(nodes int) *api.Test {
	if nodes == 1 {
		return holding
	}
	if nodes%2 == 0 {
		return or(places(nodes-1), nil)
	}
	half := places(nodes / 2)
	return or(half, half)
}

// count is how many nodes a test has.
func count(t *api.Test) int {
	if t == nil {
		return 0
	}
	return 1 + count(t.Left) + count(t.Right)
}

func TestP123Great(t *testing.T) {
	for nodes := 4090; nodes <= 4100; nodes++ {
		for what, test := range shapes(nodes) {
			what = fmt.Sprint(nodes, " ", what)
			is(t, what+": its nodes", count(test), nodes)
			is(t, what, Holds(test, one), nodes <= 4096)
			set, meas := Reads(test)
			is(t, what+": Reads", fmt.Sprint(set == 63, meas), fmt.Sprint(nodes > 4096, nodes > 4096))
			is(t, what+": Key", Key(api.Bound{Where: test}) == "", nodes > 4096)
			// what is too great holds for nothing, and so does NOT of it, which is greater
			is(t, "NOT of "+what, Holds(not(test), one), false)
			is(t, "NOT NOT of "+what, Holds(not(not(test)), one), nodes+2 <= 4096)
		}
	}
}

// rings go round without end, in several ways; some of them where nothing would ask them.
func rings() map[string]*api.Test {
	l := map[string]*api.Test{}
	for _, kind := range []int{api.CondAnd, api.CondOr, api.CondNot, api.CondCompare, api.CondIn, 0, 9} {
		left, right, both, long := *holding, *holding, *holding, *holding
		left.Kind, right.Kind, both.Kind, long.Kind = kind, kind, kind, kind
		left.Left, left.Right = &left, holding
		right.Left, right.Right = holding, &right
		both.Left, both.Right = &both, &both
		long.Left, long.Right = holding, not(or(failing, &long))
		name := fmt.Sprint("a ring of kind ", kind, ", ")
		l[name+"left"], l[name+"right"], l[name+"both"], l[name+"long"] = &left, &right, &both, &long
		l[name+"within"] = or(holding, or(failing, &both))
	}
	return l
}

func TestP123Rings(t *testing.T) {
	deep, tower := holding, holding
	for range 100000 {
		deep = not(not(deep))
	}
	for range 200 {
		tower = and(tower, tower)
	}
	l := rings()
	l["deep"], l["a tower"] = deep, tower
	defer debug.SetMaxStack(debug.SetMaxStack(4 << 20))
	for what, test := range l {
		is(t, what, Holds(test, one), false)
		is(t, what+": Reads", read(Reads(test)), "63 true")
		is(t, what+": Key", Key(api.Bound{Names: []string{"a"}, Where: test}), "")
	}
}

// What is handed in stays.
func TestP123Stays(t *testing.T) {
	test := or(and(ofText(api.CondIn, 0, 0, "z", "y"), not(ofInt(api.CondCompare, 0, api.Less, 5))), holding)
	b := api.Bound{Picks: []api.Pick{{Kind: 1}}, Names: []string{"a"}, Where: test, Sets: []int{1, 0}}
	f := api.Fact{Dims: slices.Clone(one.Dims), Meas: slices.Clone(one.Meas)}
	before := told(b, api.OK) + fmt.Sprint(f)
	is(t, "Holds", Holds(test, f), true)
	is(t, "Reads", read(Reads(test)), "1 true")
	is(t, "Key", Key(b) == "", false)
	is(t, "all of it", told(b, api.OK)+fmt.Sprint(f), before)
	key := Key(b)
	b.Sets[0], b.Names[0] = 2, "b"
	is(t, "Key of another", Key(b) == key, false)
	b.Sets[0], b.Names[0] = 1, "a"
	is(t, "Key again", Key(b) == key, true)
}
