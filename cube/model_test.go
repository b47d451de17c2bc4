package cube

import (
	"fmt"
	"math"
	"math/big"
	"slices"
	"strings"
	"testing"

	"caisson/answer"
	"caisson/api"
	"caisson/group"
)

// letters are a set's dimensions as letters, rising; those of a number that is no set are a sign that nothing has.
func letters(set int) string {
	if set < 0 || set > 63 {
		return "?"
	}
	s := ""
	for i, power := range []int{1, 2, 4, 8, 16, 32} {
		if set/power%2 == 1 {
			s += "abcdef"[i : i+1]
		}
	}
	return s
}

// covers tells whether all letters of a need are in a view.
func covers(view, need int) bool {
	return letters(view) != "?" && strings.Trim(letters(need), letters(view)) == ""
}

// some are the numbers from 0 to 63 that are as they should be, rising.
func some(good func(set int) bool) []int {
	l := []int{}
	for set := range 64 {
		if good(set) {
			l = append(l, set)
		}
	}
	return l
}

// with are all sets and the numbers that are none.
func with() []int { return slices.Concat(some(func(int) bool { return true }), beside) }

func TestP161ModelCovers(t *testing.T) {
	for _, view := range with() {
		for _, need := range with() {
			is(t, fmt.Sprint("Covers ", view, " ", need), Covers(view, need), covers(view, need))
		}
	}
}

// reading is a test that asks a set's dimensions.
func reading(set int) *api.Test {
	var t *api.Test
	for i, letter := range strings.Split("abcdef", "") {
		if strings.Contains(letters(set), letter) {
			asks := &api.Test{Kind: api.CondCompare, Index: i, Op: api.Unequal, Texts: []string{"x"}}
			t = &api.Test{Kind: api.CondAnd, Left: t, Right: &api.Test{Kind: api.CondNot, Left: asks}}
		}
	}
	return t
}

// Of any two sets and any dimensions that are read.
func TestP161ModelNeed(t *testing.T) {
	for read := range 64 {
		where := reading(read)
		for set := range 64 {
			for _, other := range []int{set, 0, 9, -1, 64} {
				want := some(func(all int) bool { return covers(all, set) && covers(all, read) && (other != 9 || covers(all, 9)) })[0]
				b := api.Bound{Sets: []int{other, set}, Where: where}
				is(t, fmt.Sprint(b.Sets, " where ", read), needOf(b), fmt.Sprint(want, false))
			}
		}
	}
}

// below tells whether a set's letters are among the first ones.
func below(set, dims int) bool {
	return strings.Trim(letters(set), "abcdef"[:min(max(dims, 0), 6)]) == ""
}

var manyDims = []int{math.MinInt, -64, -1, 0, 1, 2, 3, 4, 5, 6, 7, 63, 64, 65, math.MaxInt}

func TestP162ModelAll(t *testing.T) {
	for _, dims := range manyDims {
		want := []int{}
		for many := 6; many >= 0; many-- {
			want = append(want, some(func(set int) bool { return below(set, dims) && len(letters(set)) == many })...)
		}
		is(t, fmt.Sprint("All of ", dims), All(dims), want)
		is(t, fmt.Sprint("how many of ", dims), len(want), 1<<min(max(dims, 0), 6))
	}
}

func TestP162ModelNear(t *testing.T) {
	for _, set := range with() {
		for _, dims := range manyDims {
			want := some(func(near int) bool {
				return below(set, dims) && below(near, dims) && covers(near, set) && len(letters(near)) == len(letters(set))+1
			})
			is(t, fmt.Sprint("Parents of ", set, " below ", dims), Parents(set, dims), want)
		}
		want := some(func(near int) bool { return covers(set, near) && len(letters(near)) == len(letters(set))-1 })
		is(t, fmt.Sprint("Children of ", set), Children(set), want)
		for _, high := range with() {
			want := some(func(mid int) bool { return covers(mid, set) && covers(high, mid) })
			is(t, fmt.Sprint("between ", set, " and ", high), Between(set, high), want)
		}
	}
}

// Whoever goes over the neighbours may leave off at any one.
func TestP162Leave(t *testing.T) {
	for set := range 64 {
		all := slices.Collect(neighbours(set))
		want := slices.Concat(Children(set), Parents(set, 6))
		is(t, fmt.Sprint("all near ", set), all, want)
		for many := range all {
			l := []int{}
			for near := range neighbours(set) {
				l = append(l, near)
				if len(l) > many {
					break
				}
			}
			is(t, fmt.Sprint("some near ", set), l, want[:many+1])
		}
	}
}

// modelBound takes the product whole, and lessens it behind that.
func modelBound(set int, counts []int, facts int) string {
	product := big.NewInt(1)
	for i, letter := range strings.Split("abcdef", "") {
		if !strings.Contains(letters(set), letter) {
			continue
		}
		one := 0
		if i < len(counts) && counts[i] > 0 {
			one = counts[i]
		}
		product.Mul(product, big.NewInt(int64(one)))
	}
	for _, most := range []int{1 << 62, max(facts, 0)} {
		if product.Cmp(big.NewInt(int64(most))) > 0 {
			product = big.NewInt(int64(most))
		}
	}
	return product.String()
}

// chance draws numbers, the same ones for the same seed.
type chance uint64

func (c *chance) below(n int) int {
	*c = *c*6364136223846793005 + 1442695040888963407
	return int(uint64(*c) >> 33 % uint64(n))
}

// number is one of any size, or beside some power of two.
func (c *chance) number() int {
	n := 1 << c.below(63)
	switch c.below(6) {
	case 0:
		return -n
	case 1:
		return n + c.below(3) - 1
	case 2:
		return n - 1 + c.below(n%(1<<31)+1)
	case 3:
		return c.below(9)
	case 4:
		return math.MaxInt - c.below(2)*n
	}
	return n
}

// numbers are up to so many.
func (c *chance) numbers(many int) []int {
	l := []int{}
	for range c.below(many + 1) {
		l = append(l, c.number())
	}
	return l
}

// set is mostly one.
func (c *chance) set() int {
	if c.below(8) == 0 {
		return beside[c.below(len(beside))]
	}
	return c.below(64)
}

func TestP163ModelBound(t *testing.T) {
	kinds := map[string]int{}
	for seed := range 200000 {
		c := chance(seed)
		set, counts, facts := c.set(), c.numbers(8), c.number()
		if c.below(2) == 0 {
			facts = math.MaxInt
		}
		want := modelBound(set, counts, facts)
		is(t, fmt.Sprint("seed ", seed), Bound(set, counts, facts), want)
		switch want {
		case "0", "1", fmt.Sprint(1 << 62), fmt.Sprint(facts):
			kinds[map[bool]string{true: "facts", false: want}[want == fmt.Sprint(facts)]]++
		default:
			kinds["product"]++
		}
	}
	for _, kind := range []string{"0", "1", fmt.Sprint(1 << 62), "facts", "product"} {
		is(t, fmt.Sprint("enough of ", kind, ": ", kinds[kind]), kinds[kind] > 1000, true)
	}
}

// Of all counts out of some, at all sets.
func TestP163ModelCounts(t *testing.T) {
	edges := []int{-1, 0, 1, 2, 1 << 21, 1 << 31, 1 << 62, math.MaxInt}
	for _, a := range edges {
		for _, b := range edges {
			for _, c := range edges {
				for _, facts := range []int{-1, 0, 1, 1 << 42, 1<<62 - 1, 1 << 62, math.MaxInt} {
					for set := range 8 {
						counts := []int{a, b, c}
						is(t, fmt.Sprint(set, counts, facts), Bound(set, counts, facts), modelBound(set, counts, facts))
					}
				}
			}
		}
	}
}

// modelLeast puts all that may be taken in order, by their sizes, then by their places.
func modelLeast(views, sizes []int, need int) int {
	l := []int{}
	for i := range min(len(views), len(sizes)) {
		if covers(views[i], need) {
			l = append(l, i)
		}
	}
	slices.SortStableFunc(l, func(i, j int) int {
		return big.NewInt(int64(sizes[i])).Cmp(big.NewInt(int64(sizes[j])))
	})
	return append(l, -1)[0]
}

func TestP163ModelLeast(t *testing.T) {
	places := map[int]int{}
	for seed := range 100000 {
		c := chance(seed)
		views, sizes := []int{}, c.numbers(8)
		for range c.below(9) {
			views = append(views, c.set())
		}
		if c.below(2) == 0 {
			for i := range sizes {
				sizes[i] = c.below(3) - 1
			}
		}
		need := c.set() & c.set()
		want := modelLeast(views, sizes, need)
		is(t, fmt.Sprint("seed ", seed), Least(views, sizes, need), want)
		places[want]++
	}
	for place := -1; place < 8; place++ {
		is(t, fmt.Sprint("enough of ", place, ": ", places[place]), places[place] > 50, true)
	}
}

// What covers is covered again by what covers it; a set and another cover each other just if they are the same.
func TestP164Covers(t *testing.T) {
	for a := range 64 {
		is(t, fmt.Sprint(a, " and itself"), Covers(a, a), true)
		for b := range 64 {
			is(t, fmt.Sprint(a, " and ", b), Covers(a, b) && Covers(b, a), a == b)
			for c := range 64 {
				is(t, fmt.Sprint(a, ", ", b, " and ", c), Covers(a, b) && Covers(b, c) && !Covers(a, c), false)
			}
		}
	}
}

// The sets between two are as many as 2 to the number of dimensions that the higher has more.
func TestP164Between(t *testing.T) {
	for high := range 64 {
		for low := range 64 {
			want := 0
			if Covers(high, low) {
				want = 1 << (len(letters(high)) - len(letters(low)))
			}
			is(t, fmt.Sprint("between ", low, " and ", high), len(Between(low, high)), want)
		}
	}
}

// A set is a parent of each of its children, and a child of each of its parents.
func TestP164Near(t *testing.T) {
	for set := range 64 {
		is(t, fmt.Sprint("how many near ", set), len(Parents(set, 6))+len(Children(set)), 6)
		for _, child := range Children(set) {
			is(t, fmt.Sprint(set, " of its child ", child), slices.Contains(Parents(child, 6), set), true)
		}
		for _, parent := range Parents(set, 6) {
			is(t, fmt.Sprint(set, " of its parent ", parent), slices.Contains(Children(parent), set), true)
		}
	}
}

// A lesser set's Bound is not above a greater one's, where no count is 0; and no set has more groups than that.
func TestP164Bound(t *testing.T) {
	for seed := range 300 {
		c := chance(seed)
		counts := []int{}
		for range 6 {
			counts = append(counts, max(c.number(), 1))
		}
		facts := c.number()
		for high := range 64 {
			for _, low := range Between(0, high) {
				is(t, fmt.Sprint("seed ", seed, ", ", low, " below ", high), Bound(low, counts, facts) <= Bound(high, counts, facts), true)
			}
		}
	}
	for seed := range 500 {
		c := chance(seed)
		facts := c.facts(40)
		counts := []int{}
		for d := range 6 {
			counts = append(counts, len(group.Hash(facts, nil, 1<<d, 0)))
		}
		for set := range 64 {
			is(t, fmt.Sprint("seed ", seed, ", groups of ", set), len(group.Hash(facts, nil, set, 0)) <= Bound(set, counts, len(facts)), true)
		}
	}
}

func (c *chance) text() string { return []string{"", "p", "q", "it's"}[c.below(4)] }

// facts makes some of six dimensions and two measures.
func (c *chance) facts(most int) []api.Fact {
	l := []api.Fact{}
	for range c.below(most) {
		f := api.Fact{Meas: []int64{int64(c.below(9) - 4), int64(c.below(9) - 4)}}
		for range 6 {
			f.Dims = append(f.Dims, c.text())
		}
		l = append(l, f)
	}
	return l
}

// test makes one of some nodes that asks dimensions, and seldom a measure.
func (c *chance) test(deep int) *api.Test {
	if deep > 0 && c.below(3) > 0 {
		return &api.Test{Kind: 1 + c.below(3), Left: c.test(deep - 1), Right: c.test(deep - 1)}
	}
	if c.below(12) == 0 {
		return &api.Test{Kind: api.CondCompare, Meas: true, Index: c.below(3), Op: 1 + c.below(6), Ints: []int64{int64(c.below(5) - 2)}}
	}
	return &api.Test{Kind: api.CondCompare + c.below(2), Index: c.below(8) - 1, Op: 1 + c.below(6), Texts: []string{c.text(), c.text()}}
}

// query makes a bound one.
func (c *chance) query() api.Bound {
	b := api.Bound{}
	for kind := api.ItemColumn; kind <= api.ItemGrouping; kind++ {
		b.Picks, b.Names = append(b.Picks, api.Pick{Kind: kind, Index: c.below(2)}), append(b.Names, fmt.Sprint(kind))
	}
	for range c.below(4) {
		b.Sets = append(b.Sets, c.below(64)&c.below(64))
	}
	if c.below(4) > 0 {
		b.Where = c.test(2)
	}
	return b
}

// byView is what a query is answered by the groups of a set.
func byView(b api.Bound, view []api.Row, set int) string {
	rows, groups := view, [][]api.Row{}
	if b.Where != nil {
		rows = group.Filter(view, set, b.Where)
	}
	for _, to := range b.Sets {
		l, e := group.Regroup(rows, set, to)
		if e != api.OK {
			return e.Error()
		}
		groups = append(groups, l)
	}
	return told(answer.Render(b, groups))
}

func told(r api.Result, e api.Errno) string { return fmt.Sprint(answer.Text(r), int(e)) }

// Whatever groups by a set that covers a query's need answer it; by a set that doesn't cover the query's sets they can't.
func TestP164Answers(t *testing.T) {
	seen := map[string]int{}
	for seed := range 3000 {
		c := chance(seed)
		b, facts := c.query(), c.facts(25)
		need, meas := Need(b)
		if meas {
			seen["measures"]++
			continue
		}
		want := told(answer.Answer(b, facts, 2))
		for _, set := range Between(need, 63) {
			is(t, fmt.Sprint("seed ", seed, " by ", set), byView(b, group.Hash(facts, nil, set, 2), set), want)
			seen["covering"]++
		}
		less := need
		for _, set := range b.Sets {
			if l := Children(set); len(l) > 0 {
				less = l[0]
			}
		}
		if less != need && slices.ContainsFunc(b.Sets, func(set int) bool { return !Covers(less, set) }) {
			is(t, fmt.Sprint("seed ", seed, " by ", less), byView(b, group.Hash(facts, nil, less, 2), less), api.ErrArg.Error())
			seen["lesser"]++
		}
	}
	for what, least := range map[string]int{"measures": 200, "covering": 5000, "lesser": 500} {
		is(t, fmt.Sprint("enough of ", what, ": ", seen[what]), seen[what] > least, true)
	}
}
