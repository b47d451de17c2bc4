package sets

import (
	"fmt"
	"math"
	"runtime/debug"
	"slices"
	"strings"
	"testing"

	"caisson/api"
)

func is(t *testing.T, what string, got, want any) {
	t.Helper()
	if g, w := fmt.Sprint(got), fmt.Sprint(want); g != w {
		t.Errorf("%.200s: %.300s, want %.300s", what, g, w)
	}
}

// names are those of a text, each of one letter; of a point none.
func names(text string) []string {
	if text == "." {
		return nil
	}
	return strings.Split(text, "")
}

// groups are elements as a text: a name, or R (of ROLLUP), C (of CUBE) with names, or S (of GROUPING SETS) with sets.
func groups(text string) []api.Group {
	l := []api.Group{}
	for _, element := range strings.Split(text, ",") {
		w := strings.Fields(element)
		switch w[0] {
		case "R":
			l = append(l, api.Group{Kind: api.GroupRollup, Columns: names(w[1])})
		case "C":
			l = append(l, api.Group{Kind: api.GroupCube, Columns: names(w[1])})
		case "S":
			g := api.Group{Kind: api.GroupSets}
			for _, set := range w[1:] {
				g.Sets = append(g.Sets, names(set))
			}
			l = append(l, g)
		default:
			l = append(l, api.Group{Kind: api.GroupPlain, Columns: names(w[0])})
		}
	}
	return l
}

// told is what Expand says: the list, or the error's number; both, if a list stands beside an error.
func told(l []int, e api.Errno) string {
	if e != api.OK && l == nil {
		return fmt.Sprintf("error %d", int(e))
	}
	if e != api.OK {
		return fmt.Sprint(int(e), l)
	}
	return fmt.Sprint(append([]int{}, l...))
}

// check holds each text of elements against what is told of it; of the dimensions a, b, c.
func check(t *testing.T, cases [][2]string) {
	t.Helper()
	for _, c := range cases {
		is(t, c[0], told(Expand(names("abc"), groups(c[0]))), c[1])
	}
}

const (
	wrongOne = "error 1"
	noName   = "error 42"
	tooMany  = "error 46"
)

func TestExamples(t *testing.T) {
	is(t, "none", told(Expand(names("abc"), nil)), "[0]")
	check(t, [][2]string{
		{"a, b", "[3]"},
		{"R ab", "[3 1 0]"},
		{"C ab", "[3 1 2 0]"},
		{"c, R ab", "[7 5 4]"},
		{"S a . ba", "[1 0 3]"},
		{"C abcabca", tooMany},
		{"C abcabc, R a", tooMany},
		{"x", noName},
	})
}

// Each kind of element alone, its sets in its own order.
func TestP111Elements(t *testing.T) {
	check(t, [][2]string{
		{"a", "[1]"},
		{"c", "[4]"},
		{"R c", "[4 0]"},
		{"R cab", "[7 5 4 0]"},
		{"R aab", "[3 1 1 0]"},
		{"R aba", "[3 3 1 0]"},
		{"C b", "[2 0]"},
		{"C abc", "[7 3 5 1 6 2 4 0]"},
		{"C cba", "[7 6 5 4 3 2 1 0]"},
		{"C aa", "[1 1 1 0]"},
		{"C aba", "[3 3 1 1 3 2 1 0]"},
		{"S .", "[0]"},
		{"S cb", "[6]"},
		{"S aa aba", "[1 3]"},
		{"S a b a . .", "[1 2 1 0 0]"},
	})
}

// Several elements: the first one's sets turn slowest, and what is chosen is joined.
func TestP111Crossed(t *testing.T) {
	check(t, [][2]string{
		{"a, a", "[1]"},
		{"c, a, b", "[7]"},
		{"R ab, c", "[7 5 4]"},
		{"R a, R b", "[3 1 2 0]"},
		{"R b, R a", "[3 2 1 0]"},
		{"R ab, R ab", "[3 3 3 3 1 1 3 1 0]"},
		{"R ab, C ac", "[7 3 7 3 5 1 5 1 5 1 4 0]"},
		{"C ac, R ab", "[7 5 5 3 1 1 7 5 4 3 1 0]"},
		{"S a ., b, S c . b", "[7 3 3 6 2 2]"},
		{"S a, R b, S c", "[7 5]"},
		{"C a, C b, C c", "[7 3 5 1 6 2 4 0]"},
		{"S a b, S . c, S . a", "[1 1 5 5 2 3 6 7]"},
	})
}

// An element without sets leaves no choice, however many sets the others have.
func TestP111NoChoice(t *testing.T) {
	most := strings.Repeat("abc", 50)
	check(t, [][2]string{
		{"S", "[]"},
		{"S, S", "[]"},
		{"a, S", "[]"},
		{"S, C abc", "[]"},
		{"C abc, S, R ab", "[]"},
		{"C " + most + ", S", "[]"},
		{"S, C " + most, "[]"},
		{"C " + most + ", C " + most + ", S, R " + most, "[]"},
		{"S, x", noName},
		{"C " + most + "x, S", noName},
		{"S, S x", noName},
		{"S, R .", wrongOne},
		{"C ., S", wrongOne},
	})
}

func TestP111Arg(t *testing.T) {
	for n, want := range []string{noName, "[1]", "[1]", "[1]", "[1]", "[1]", "[1]", wrongOne, wrongOne} {
		is(t, fmt.Sprint(n, " dims"), told(Expand(names("abcdefgh")[:n], groups("a"))), want)
	}
	is(t, "seven dims, no elements", told(Expand(names("abcdefg"), nil)), wrongOne)
	is(t, "seven dims, all the same", told(Expand(names("aaaaaaa"), groups("a"))), wrongOne)
	for _, kind := range []int{math.MinInt, -1, 0, 5, 6, 64, math.MaxInt} {
		for _, g := range []api.Group{{}, {Columns: names("a")}, {Columns: names("ab")}, {Columns: names("x")}, {Sets: [][]string{names("a")}}} {
			g.Kind = kind
			is(t, fmt.Sprint("Kind ", kind, g), told(Expand(names("abc"), []api.Group{g})), wrongOne)
			is(t, fmt.Sprint("Kind ", kind, g), told(Expand(names("abc"), append(groups("a"), g))), wrongOne)
		}
	}
	check(t, [][2]string{
		{".", wrongOne},
		{"ab", wrongOne},
		{"aa", wrongOne},
		{"xy", wrongOne},
		{"R .", wrongOne},
		{"C .", wrongOne},
		{"a, R ab, C .", wrongOne},
		// ahead of what else is wrong, wherever that stands
		{"x, R .", wrongOne},
		{"C x, ab", wrongOne},
		{"C abcabca, x, .", wrongOne},
		{"C abcabca, C .", wrongOne},
	})
	is(t, "a name with sets alone", told(Expand(names("abc"), []api.Group{{Kind: api.GroupPlain, Sets: [][]string{names("a")}}})), wrongOne)
	is(t, "ROLLUP with sets alone", told(Expand(names("abc"), []api.Group{{Kind: api.GroupRollup, Sets: [][]string{names("a")}}})), wrongOne)
	is(t, "CUBE with sets alone", told(Expand(names("abc"), []api.Group{{Kind: api.GroupCube, Sets: [][]string{names("a")}}})), wrongOne)
}

func TestP111Name(t *testing.T) {
	check(t, [][2]string{
		{"a, x", noName},
		{"A", noName},
		{"R x", noName},
		{"R abx", noName},
		{"C xab", noName},
		{"C abx", noName},
		{"S x", noName},
		{"S a . bx", noName},
		{"S ab ax b", noName},
		// ahead of too many sets, wherever it stands
		{"x, C abcabca", noName},
		{"C abcabca, x", noName},
		{"C abcabcx", noName},
		{"C abcabc, R x", noName},
	})
	for _, kind := range []int{api.GroupPlain, api.GroupRollup, api.GroupCube} {
		for _, name := range []string{"", "a ", "ab", "é", "a\x00", strings.Repeat("a", 1<<16)} {
			is(t, fmt.Sprintf("Kind %d of %.20q", kind, name), told(Expand(names("abc"), []api.Group{{Kind: kind, Columns: []string{name}}})), noName)
		}
	}
	is(t, "no dims", told(Expand(nil, groups("a"))), noName)
	is(t, "no dims, no names", told(Expand(nil, groups("S . ., S ."))), "[0 0]")
	is(t, "no dims, no elements", told(Expand(nil, []api.Group{})), "[0]")
}

// A dimension may be called anything; of two that are the same the first one counts.
func TestP111Dims(t *testing.T) {
	is(t, "twice", told(Expand(names("abab"), groups("C ab"))), "[3 1 2 0]")
	is(t, "twice, behind another", told(Expand(names("cabab"), groups("b, a, c"))), "[7]")
	is(t, "all the same", told(Expand(names("aaaaaa"), groups("R aaa"))), "[1 1 1 0]")
	is(t, "six", told(Expand(names("abcdef"), groups("R fedcba"))), "[63 62 60 56 48 32 0]")
	odd := []string{"", "a b", "\xff", "SELECT", strings.Repeat("x", 1<<16), "é"}
	is(t, "odd names", told(Expand(odd, []api.Group{{Kind: api.GroupRollup, Columns: odd}})), "[63 31 15 7 3 1 0]")
}

func TestP111Many(t *testing.T) {
	so := func(n int, word string) string { return strings.TrimSpace(strings.Repeat(word, n)) }
	for _, c := range []struct {
		text string
		want int
	}{
		{"C abcabc", 64},
		{"C abcabca", 0},
		{"C " + so(63, "a"), 0},
		{"C " + so(64, "a"), 0},
		{"C " + so(65, "a"), 0},
		{"C " + so(1000, "a"), 0},
		{"R " + so(62, "a"), 63},
		{"R " + so(63, "a"), 64},
		{"R " + so(64, "a"), 0},
		{"R " + so(65, "a"), 0},
		{"R " + so(5000, "a"), 0},
		{"S " + so(64, ". "), 64},
		{"S " + so(65, ". "), 0},
		{"S " + so(128, "a "), 0},
		{"S " + so(1000, "a "), 0},
		{"R abcabca, C abc", 64},
		{"R abcabcabcabc, S a b c . a", 0},
		{"S a b . c, R abc, S a b . c", 64},
		{"C abc, C abc", 64},
		{"C abc, C abc, C a", 0},
		{so(5, "R a, ") + "R a", 64},
		{so(6, "R a, ") + "R a", 0},
		{so(63, "R a, ") + "R a", 0},
		{so(64, "R a, ") + "R a", 0},
		{so(3, "C "+so(32, "a")+", ") + "a", 0},
		{so(5, "R abc, ") + "a", 0},
		{so(200, "a, ") + "C abcabc", 64},
		{"C abcabc, " + so(200, "S ab, ") + "c", 64},
		{so(200, "a, ") + "C abcabca", 0},
	} {
		l, e := Expand(names("abc"), groups(c.text))
		is(t, c.text+": how many", len(l), c.want)
		is(t, c.text, e == api.ErrMany, c.want == 0)
		is(t, c.text+": no other error", e == api.OK, c.want > 0)
	}
}

// What has no meaning in an element is passed over.
func TestP111PassedOver(t *testing.T) {
	x := [][]string{names("x"), nil, names("xx")}
	for _, c := range []struct {
		group api.Group
		want  string
	}{
		{api.Group{Kind: api.GroupPlain, Columns: names("b"), Sets: x}, "[2]"},
		{api.Group{Kind: api.GroupRollup, Columns: names("ab"), Sets: x}, "[3 1 0]"},
		{api.Group{Kind: api.GroupCube, Columns: names("ab"), Sets: x}, "[3 1 2 0]"},
		{api.Group{Kind: api.GroupSets, Columns: names("xxx"), Sets: [][]string{names("ab"), {}}}, "[3 0]"},
		{api.Group{Kind: api.GroupSets, Columns: names("ab")}, "[]"},
	} {
		is(t, fmt.Sprint(c.group), told(Expand(names("abc"), []api.Group{c.group})), c.want)
	}
}

// However many elements, names or sets there are, there is an answer, and no great stack is asked for.
func TestP111Long(t *testing.T) {
	defer debug.SetMaxStack(debug.SetMaxStack(1 << 20))
	const n = 200000
	many := slices.Repeat(groups("a"), n)
	is(t, "names", told(Expand(names("abc"), many)), "[1]")
	is(t, "names, ROLLUP", told(Expand(names("abc"), append(many, groups("R bc")...))), "[7 3 1]")
	is(t, "names, x", told(Expand(names("abc"), append(many, groups("x")...))), noName)
	is(t, "ROLLUPs", told(Expand(names("abc"), slices.Repeat(groups("R a"), n))), tooMany)
	is(t, "CUBEs", told(Expand(names("abc"), slices.Repeat(groups("C ab"), n))), tooMany)
	is(t, "sets", told(Expand(names("abc"), slices.Repeat(groups("S b"), n))), "[2]")
	is(t, "no sets", told(Expand(names("abc"), append(slices.Repeat(groups("C ab"), n), groups("S")...))), "[]")
	long := slices.Repeat(names("c"), n)
	is(t, "a set of many names", told(Expand(names("abc"), []api.Group{{Kind: api.GroupSets, Sets: [][]string{long, {}}}})), "[4 0]")
	is(t, "a ROLLUP of many names", told(Expand(names("abc"), []api.Group{{Kind: api.GroupRollup, Columns: long}})), tooMany)
	is(t, "a CUBE of many names", told(Expand(names("abc"), []api.Group{{Kind: api.GroupCube, Columns: long}})), tooMany)
}

// What is handed in stays; what is told has no part in what is told next.
func TestP111Apart(t *testing.T) {
	dims, l := names("abc"), groups("c, R ab, S a . bc, C a")
	before := fmt.Sprint(dims, l)
	first, _ := Expand(dims, l)
	want := fmt.Sprint(first)
	is(t, "dims and groups", fmt.Sprint(dims, l), before)
	for i := range first {
		first[i] = -1
	}
	second, _ := Expand(dims, l)
	is(t, "told again", second, want)
	is(t, "dims and groups again", fmt.Sprint(dims, l), before)
	dims[0], l[1].Columns[0], l[2].Sets[0][0] = "x", "x", "x"
	is(t, "told before", second, want)
	one := groups("a")
	told, _ := Expand(names("abc"), one)
	_ = append(told, 9)
	again, _ := Expand(names("abc"), one)
	is(t, "one name", fmt.Sprint(told, again), "[1] [1]")
}

func TestP112List(t *testing.T) {
	for set := range 64 {
		want := []int{}
		for d, n := 0, set; n > 0; d, n = d+1, n/2 {
			if n%2 == 1 {
				want = append(want, d)
			}
		}
		is(t, fmt.Sprint("List of ", set), List(set), want)
	}
	for _, set := range []int{-1, -2, -63, -64, 64, 65, 127, 128, 1 << 32, math.MinInt, math.MaxInt} {
		is(t, fmt.Sprint("List of ", set), List(set), "[]")
	}
	l := List(63)
	is(t, "List of all", l, "[0 1 2 3 4 5]")
	l[0] = 9
	is(t, "List of all, again", List(63), "[0 1 2 3 4 5]")
}

func TestP112Of(t *testing.T) {
	is(t, "Of none", Of(), 0)
	is(t, "Of nil", Of([]int(nil)...), 0)
	for d := range 6 {
		is(t, fmt.Sprint("Of ", d), Of(d), []int{1, 2, 4, 8, 16, 32}[d])
	}
	is(t, "Of 5, 0, 2", Of(5, 0, 2), 37)
	is(t, "Of 1, 1, 1", Of(1, 1, 1), 2)
	for _, d := range []int{-1, -6, -64, 6, 7, 31, 32, 63, 64, 65, 128, math.MinInt, math.MaxInt} {
		is(t, fmt.Sprint("Of ", d), Of(d), 0)
		is(t, fmt.Sprint("Of ", d, " between"), Of(4, d, 1), 18)
	}
	l := []int{3, 9, 0}
	is(t, "Of a list", Of(l...), 9)
	is(t, "the list", l, "[3 9 0]")
	is(t, "Of many", Of(slices.Repeat([]int{5, 6}, 100000)...), 32)
}

func TestP112Names(t *testing.T) {
	dims := names("badcfegh")
	for n := range len(dims) + 1 {
		for set := range 64 {
			want := []string{}
			for d, name := range dims[:min(n, 6)] {
				if set/[]int{1, 2, 4, 8, 16, 32}[d]%2 == 1 {
					want = append(want, name)
				}
			}
			is(t, fmt.Sprint("Names of ", dims[:n], set), strings.Join(Names(dims[:n], set), " "), strings.Join(want, " "))
		}
		for _, set := range []int{-1, -64, 64, 65, 127, math.MinInt, math.MaxInt} {
			is(t, fmt.Sprint("Names of ", dims[:n], set), len(Names(dims[:n], set)), 0)
		}
	}
	is(t, "Names of nil", len(Names(nil, 63)), 0)
	is(t, "Names that come twice", Names(names("aba"), 7), "[a b a]")
	is(t, "Names of no letters", fmt.Sprintf("%q", Names([]string{"", "b", ""}, 5)), `["" ""]`)
	l := Names(dims, 7)
	l[0] = "x"
	_ = append(l, "y")
	is(t, "dims", dims, "[b a d c f e g h]")
	is(t, "Names again", Names(dims, 7), "[b a d]")
}
