package bind

import (
	"fmt"
	"math"
	"slices"
	"strings"
	"testing"

	"caisson/api"
)

// exact is a bound query field by field; nil and empty lists are the same.
func exact(b api.Bound) string {
	return fmt.Sprintf("%v %q %s %v", b.Picks, b.Names, exactTest(b.Where), b.Sets)
}

func exactTest(t *api.Test) string {
	if t == nil {
		return "nil"
	}
	return fmt.Sprintf("(%d %v %d %d %q %d %s %s)", t.Kind, t.Meas, t.Index, t.Op, t.Texts, t.Ints, exactTest(t.Left), exactTest(t.Right))
}

// checkKeys tells whether keys are the same just for those that are the same.
func checkKeys(t *testing.T, l []api.Bound) {
	t.Helper()
	byKey, byText := map[string]string{}, map[string]string{}
	for _, b := range l {
		key, text := Key(b), exact(b)
		if other, ok := byKey[key]; ok && other != text {
			t.Fatalf("one key: %s and %s", other, text)
		}
		if other, ok := byText[text]; ok && other != key {
			t.Fatalf("two keys of %s: %q and %q", text, other, key)
		}
		if key == "" {
			t.Fatalf("no key: %s", text)
		}
		byKey[key], byText[text] = text, key
	}
}

// lists are all of up to so many elements.
func lists[T any](most int, elements ...T) [][]T {
	l := [][]T{nil}
	longer := l
	for range most {
		shorter := longer
		longer = nil
		for _, s := range shorter {
			for _, e := range elements {
				longer = append(longer, append(slices.Clip(s), e))
			}
		}
		l = append(l, longer...)
	}
	return l
}

// Lists of numbers and texts, of which some could be taken for others.
func TestP123KeyLists(t *testing.T) {
	l := []api.Bound{}
	for _, picks := range lists(3, api.Pick{}, api.Pick{Kind: 1}, api.Pick{Index: 1}, api.Pick{Kind: 11, Index: -1}, api.Pick{Kind: -1, Index: 11}) {
		for _, sets := range lists(2, 0, 1, 11, -1, 2) {
			l = append(l, api.Bound{Picks: picks, Sets: sets})
		}
	}
	for _, names := range lists(4, "", "0", "1", " ", "1 ", "0 0 ", "a", "\x00") {
		l = append(l, api.Bound{Names: names}, api.Bound{Names: names, Sets: []int{0}}, api.Bound{Names: names, Where: &api.Test{}}, api.Bound{Names: append(names, "1 1 0 0"), Where: &api.Test{}})
	}
	for _, n := range []int{math.MinInt, math.MinInt64, -1 << 32, -2, 2, 10, 1 << 32, math.MaxInt - 1, math.MaxInt} {
		l = append(l, api.Bound{Sets: []int{n}}, api.Bound{Picks: []api.Pick{{Kind: n}}}, api.Bound{Picks: []api.Pick{{Index: n}}})
		l = append(l, api.Bound{Where: &api.Test{Kind: n}}, api.Bound{Where: &api.Test{Index: n}}, api.Bound{Where: &api.Test{Op: n}}, api.Bound{Where: &api.Test{Ints: []int64{int64(n)}}})
	}
	checkKeys(t, l)
}

// All small tests, with fields that have a meaning in their nodes, and others.
func TestP123KeyTests(t *testing.T) {
	nodes := []api.Test{}
	for n := range 3 * 2 * 2 * 2 {
		for _, texts := range lists(2, "", "1", "1 ") {
			for _, ints := range lists(1, int64(0), int64(1), int64(-1)) {
				nodes = append(nodes, api.Test{Kind: []int{3, 4, 5}[n%3], Meas: n/3%2 == 1, Index: n / 6 % 2, Op: n / 12, Texts: texts, Ints: ints})
			}
		}
	}
	l := []api.Bound{{}}
	for _, left := range nodes {
		l = append(l, api.Bound{Where: &left})
		for _, node := range []api.Test{{}, {Kind: 1}, {Kind: 4, Texts: []string{"1"}}} {
			a, b, c := node, node, node
			a.Left, b.Right, c.Left, c.Right = &left, &left, &left, &left
			l = append(l, api.Bound{Where: &a}, api.Bound{Where: &b}, api.Bound{Where: &c})
		}
	}
	shapes := []*api.Test{nil, {}, {Kind: 4, Ints: []int64{0}}}
	for range 2 {
		more := shapes
		for _, left := range shapes {
			for _, right := range shapes {
				more = append(more, and(left, right), &api.Test{Left: left, Right: right})
			}
		}
		shapes = more
	}
	for _, test := range shapes {
		l = append(l, api.Bound{Where: test})
	}
	checkKeys(t, l)
}

// A field more or less, another one, or in another place is another query.
func TestP123KeyFields(t *testing.T) {
	made := func() api.Bound {
		where := and(ofText(api.CondIn, 1, 0, "x", "y"), or(ofInt(api.CondIn, 0, 0, 1, 2), not(ofText(api.CondCompare, 0, api.Less, "x"))))
		return api.Bound{Picks: []api.Pick{{Kind: 1}, {Kind: 3, Index: 1}}, Names: []string{"a", "SUM(n)"}, Where: where, Sets: []int{3, 1, 0}}
	}
	l := []api.Bound{made()}
	for _, do := range []func(b *api.Bound){
		func(b *api.Bound) { b.Picks[0].Kind = 6 },
		func(b *api.Bound) { b.Picks[1].Index = 0 },
		func(b *api.Bound) { b.Picks = b.Picks[:1] },
		func(b *api.Bound) { slices.Reverse(b.Picks) },
		func(b *api.Bound) { b.Names[0] = "A" },
		func(b *api.Bound) { b.Names[1] = "SUM(n) " },
		func(b *api.Bound) { b.Names = b.Names[:1] },
		func(b *api.Bound) { slices.Reverse(b.Names) },
		func(b *api.Bound) { b.Sets[2] = 2 },
		func(b *api.Bound) { b.Sets = b.Sets[:2] },
		func(b *api.Bound) { b.Sets = append(b.Sets, 0) },
		func(b *api.Bound) { slices.Reverse(b.Sets) },
		func(b *api.Bound) { b.Where = nil },
		func(b *api.Bound) { b.Where = b.Where.Left },
		func(b *api.Bound) { b.Where.Kind = api.CondOr },
		func(b *api.Bound) { b.Where.Left, b.Where.Right = b.Where.Right, b.Where.Left },
		func(b *api.Bound) { b.Where.Left.Texts[0] = "z" },
		func(b *api.Bound) { b.Where.Left.Texts = []string{"xy"} },
		func(b *api.Bound) { b.Where.Left.Texts = []string{"x"} },
		func(b *api.Bound) { b.Where.Left.Texts = []string{"xy", ""} },
		func(b *api.Bound) { b.Where.Left.Texts = []string{"", "xy"} },
		func(b *api.Bound) { b.Where.Left.Meas = true },
		func(b *api.Bound) { b.Where.Left.Ints = []int64{0} },
		func(b *api.Bound) { b.Where.Left.Index = 0 },
		func(b *api.Bound) { b.Where.Left.Op = 1 },
		func(b *api.Bound) { b.Where.Right.Left.Ints[1] = 12 },
		func(b *api.Bound) { b.Where.Right.Left.Ints = []int64{12} },
		func(b *api.Bound) { b.Where.Right.Left.Left = holding },
		func(b *api.Bound) { b.Where.Right.Left.Right = holding },
		func(b *api.Bound) { b.Where.Right.Right.Right = holding },
		func(b *api.Bound) { b.Where.Right.Right = b.Where.Right.Right.Left },
		func(b *api.Bound) { b.Where.Right.Right.Left.Op = api.AtMost },
	} {
		b := made()
		do(&b)
		l = append(l, b)
	}
	for i, a := range l {
		for j, b := range l {
			if i != j && exact(a) == exact(b) {
				t.Fatalf("%d and %d are the same", i, j)
			}
		}
	}
	checkKeys(t, append(l, made(), made()))
}

// Nil and empty lists are the same, and so are a node in several places and several nodes.
func TestP123KeySame(t *testing.T) {
	is(t, "nothing", Key(api.Bound{}) == Key(api.Bound{Picks: []api.Pick{}, Names: []string{}, Sets: []int{}}), true)
	is(t, "a node with nothing", Key(api.Bound{Where: &api.Test{}}) == Key(api.Bound{Where: &api.Test{Texts: []string{}, Ints: []int64{}}}), true)
	is(t, "no node", Key(api.Bound{Where: &api.Test{}}) == Key(api.Bound{}), false)
	made := func() *api.Test { return ofText(api.CondIn, 0, 0, "x") }
	x := made()
	is(t, "places", Key(api.Bound{Where: and(x, or(x, x))}) == Key(api.Bound{Where: and(made(), or(made(), made()))}), true)
	is(t, "longer memory", Key(api.Bound{Sets: append(make([]int, 0, 9), 1)}) == Key(api.Bound{Sets: []int{1}}), true)
}

// What may not be, or is long, has a key too.
func TestP123KeyLong(t *testing.T) {
	long := strings.Repeat("x", 1<<20)
	checkKeys(t, []api.Bound{
		{Names: []string{long}},
		{Names: []string{long[1:], "x"}},
		{Names: []string{long, ""}},
		{Where: ofText(api.CondIn, 0, 0, long)},
		{Where: ofText(api.CondIn, 0, 0, long[1:])},
		{Sets: make([]int, 100000)},
		{Sets: make([]int, 100001)},
		{Picks: make([]api.Pick, 100000)},
		{Where: ofInt(api.CondIn, 0, 0, make([]int64, 100000)...)},
		{Where: ofInt(api.CondIn, 0, 0, make([]int64, 100001)...)},
	})
}
