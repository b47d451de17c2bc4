package answer

import (
	"fmt"
	"math"
	"math/big"
	"slices"
	"strings"
	"testing"

	"caisson/api"
	"caisson/bind"
)

// chance draws numbers, the same ones for the same seed.
type chance uint64

func (c *chance) below(n int) int {
	*c = *c*6364136223846793005 + 1442695040888963407
	return int(uint64(*c) >> 33 % uint64(n))
}

func (c *chance) text() string { return []string{"", "p", "q", "it's", "\xff"}[c.below(5)] }

// number is mostly a small one; of two great ones the sum is none that can be told.
func (c *chance) number() int64 {
	if c.below(4) == 0 {
		return []int64{math.MaxInt64, math.MinInt64, math.MaxInt64 - 3, math.MinInt64 + 3}[c.below(4)]
	}
	return int64(c.below(9) - 4)
}

// facts makes some, each of so many dimensions at the least, and six at the most.
func (c *chance) facts(most, least int) []api.Fact {
	l := []api.Fact{}
	for range c.below(most) {
		f := api.Fact{}
		for range least + c.below(7-least) {
			f.Dims = append(f.Dims, c.text())
		}
		for range c.below(4) {
			f.Meas = append(f.Meas, c.number())
		}
		l = append(l, f)
	}
	return l
}

// test makes one, nil or of some nodes.
func (c *chance) test(deep int) *api.Test {
	switch {
	case deep == 0 || c.below(4) == 0:
		return nil
	case c.below(3) > 0:
		return &api.Test{Kind: 1 + c.below(3), Left: c.test(deep - 1), Right: c.test(deep - 1)}
	case c.below(3) == 0:
		return ofInt(c.below(3), 1+c.below(6), c.number())
	}
	t := ofText(c.below(6), 1+c.below(6), c.text())
	if c.below(3) == 0 {
		t.Kind, t.Texts = api.CondIn, append(t.Texts, c.text())
	}
	return t
}

// query makes a bound one that may be.
func (c *chance) query() api.Bound {
	picks, list := []api.Pick{}, []int{}
	for range c.below(6) {
		picks = append(picks, api.Pick{Kind: 1 + c.below(6), Index: c.below(7)})
		if c.below(2) == 0 {
			picks[len(picks)-1].Index = c.below(2)
		}
	}
	for range c.below(4) {
		list = append(list, c.below(64)&c.below(64))
	}
	b := bound(picks, list...)
	b.Where = c.test(3)
	return b
}

// has tells whether a set has a dimension; dims are all that it has.
func has(set, dim int) bool {
	return dim < 6 && []int{1, 2, 4, 8, 16, 32}[dim]&set != 0
}

func dims(set int) []int {
	l := []int{}
	for d := range 6 {
		if has(set, d) {
			l = append(l, d)
		}
	}
	return l
}

// meant are the facts that have all of a set's dimensions, and that are asked for.
func meant(b api.Bound, facts []api.Fact, set int) []api.Fact {
	l := []api.Fact{}
	for _, f := range facts {
		lacks := slices.ContainsFunc(dims(set), func(d int) bool { return d >= len(f.Dims) })
		if !lacks && (b.Where == nil || bind.Holds(b.Where, f)) {
			l = append(l, f)
		}
	}
	return l
}

// modelCell is a pick's in the group that some facts make; in one of none for the empty set, too. It is overflow, if it can't be told.
func modelCell(p api.Pick, set int, group []api.Fact, meas int) string {
	switch p.Kind {
	case api.ItemColumn:
		if has(set, p.Index) {
			return fmt.Sprintf("%q", group[0].Dims[p.Index])
		}
		return "-"
	case api.ItemCount:
		return fmt.Sprint(len(group))
	case api.ItemGrouping:
		return fmt.Sprint(map[bool]int{true: 0, false: 1}[has(set, p.Index)])
	}
	sum, numbers := new(big.Int), []int64{}
	for _, f := range group {
		if p.Index < meas && p.Index < 4 && p.Index < len(f.Meas) {
			numbers = append(numbers, f.Meas[p.Index])
			sum.Add(sum, big.NewInt(f.Meas[p.Index]))
		}
	}
	switch {
	case len(numbers) == 0:
		return "-"
	case p.Kind == api.ItemMin:
		return fmt.Sprint(slices.Min(numbers))
	case p.Kind == api.ItemMax:
		return fmt.Sprint(slices.Max(numbers))
	case !sum.IsInt64():
		return overflow
	}
	return sum.String()
}

// model is what a query is answered, as dump has it without the names: for each set the facts are laid beside those with the same texts, the piles in the order of their texts.
func model(b api.Bound, facts []api.Fact, meas int) string {
	rows := []string{}
	for _, set := range b.Sets {
		piles := map[string][]api.Fact{}
		order := [][]string{}
		if set == 0 {
			piles["[]"] = nil
			order = [][]string{{}}
		}
		for _, f := range meant(b, facts, set) {
			k := []string{}
			for _, d := range dims(set) {
				k = append(k, f.Dims[d])
			}
			name := fmt.Sprintf("%q", k)
			if _, ok := piles[name]; !ok {
				order = append(order, k)
			}
			piles[name] = append(piles[name], f)
		}
		slices.SortFunc(order, slices.Compare)
		for _, k := range order {
			l := []string{}
			for _, p := range b.Picks {
				l = append(l, modelCell(p, set, piles[fmt.Sprintf("%q", k)], meas))
			}
			if slices.Contains(l, overflow) {
				return overflow
			}
			rows = append(rows, "("+strings.Join(l, " ")+")")
		}
	}
	return strings.Join(rows, " ")
}

func TestP152Model(t *testing.T) {
	count := map[string]int{}
	for seed := range 40000 {
		c := chance(seed)
		b, facts, meas := c.query(), c.facts(25, c.below(7)), c.below(6)-1
		want := model(b, facts, meas)
		is(t, fmt.Sprint("seed ", seed), cellsOnly(Answer(b, facts, meas)), want)
		switch {
		case want == overflow:
			count[overflow]++
		case strings.Contains(want, " (") && strings.Contains(want, `"`) && strings.Contains(want, "-"):
			count["rows"]++
		case want == "":
			count["none"]++
		}
	}
	for _, what := range []string{overflow, "rows", "none"} {
		is(t, fmt.Sprint("enough of ", what, ": ", count[what]), count[what] > 400, true)
	}
}

// An answer hangs on no order of facts.
func TestP154Order(t *testing.T) {
	for seed := range 5000 {
		c := chance(seed)
		b, facts := c.query(), c.facts(25, 3)
		want := dump(Answer(b, facts, 3))
		for range 3 {
			for i := range facts {
				j := c.below(i + 1)
				facts[i], facts[j] = facts[j], facts[i]
			}
			is(t, fmt.Sprint("seed ", seed), dump(Answer(b, facts, 3)), want)
		}
	}
}

// The Counts of any one set together are how many facts Where holds for: of those that have its dimensions.
func TestP154Counts(t *testing.T) {
	for seed := range 5000 {
		c := chance(seed)
		b, facts := c.query(), c.facts(25, c.below(7))
		for _, set := range b.Sets {
			alone := bound([]api.Pick{{Kind: api.ItemCount}}, set)
			alone.Where = b.Where
			r, e := Answer(alone, facts, 3)
			sum := int64(0)
			for _, l := range r.Rows {
				sum += l[0].Int
			}
			is(t, fmt.Sprint("seed ", seed), fmt.Sprint(sum, int(e)), fmt.Sprint(len(meant(b, facts, set)), 0))
		}
	}
}

// A query of several sets is answered as the queries of each alone, one behind the other.
func TestP154Sets(t *testing.T) {
	for seed := range 5000 {
		c := chance(seed)
		b, facts := c.query(), c.facts(25, 3)
		together, want := api.Result{Columns: b.Names}, api.OK
		for _, set := range b.Sets {
			alone := b
			alone.Sets = []int{set}
			r, e := Answer(alone, facts, 3)
			together.Rows = append(together.Rows, r.Rows...)
			want = max(want, e)
		}
		if want != api.OK {
			together = api.Result{}
		}
		r, e := Answer(b, facts, 3)
		is(t, fmt.Sprint("seed ", seed), dump(r, e), dump(together, want))
		is(t, fmt.Sprint("seed ", seed, ": Same"), Same(r, together), true)
		is(t, fmt.Sprint("seed ", seed, ": Text"), Text(r), Text(together))
	}
}

// What no fact holds for is answered by no row, but for the empty set.
func TestP154None(t *testing.T) {
	for seed := range 5000 {
		c := chance(seed)
		b, facts := c.query(), c.facts(25, 3)
		facts = slices.DeleteFunc(facts, func(f api.Fact) bool { return b.Where == nil || bind.Holds(b.Where, f) })
		r, e := Answer(b, facts, 3)
		empty := 0
		for _, set := range b.Sets {
			if set == 0 {
				empty++
			}
		}
		is(t, fmt.Sprint("seed ", seed), fmt.Sprint(len(r.Rows), int(e)), fmt.Sprint(empty, 0))
	}
}

// Two results that are the same as texts, and have cells of a kind alone, are the same; Same says as much of itself and of others.
func TestP153Model(t *testing.T) {
	same, other := 0, 0
	for seed := range 5000 {
		c := chance(seed)
		b, facts := c.query(), c.facts(4, 3)
		r, e := Answer(b, facts, 3)
		d := b
		d.Where = c.test(2)
		s, f := Answer(d, facts, 3)
		is(t, fmt.Sprint("seed ", seed, ": itself"), Same(r, r), true)
		is(t, fmt.Sprint("seed ", seed), Same(r, s), dump(r, e) == dump(s, f))
		is(t, fmt.Sprint("seed ", seed, ": Text"), Text(r) == Text(s), dump(r, e) == dump(s, f))
		if Same(r, s) {
			same++
		} else {
			other++
		}
	}
	is(t, fmt.Sprint("enough the same: ", same, ", enough others: ", other), same > 1000 && other > 500, true)
}

// many facts in many groups of many sets
func TestP152Many(t *testing.T) {
	facts := []api.Fact{}
	for i := range 20000 {
		facts = append(facts, fact(fmt.Sprint(i%7, " ", i*7919%500, " ", strings.Repeat("x", 1+i%64), " ."), int64(i)))
	}
	list := many(64, 1)
	list[7], list[63] = 0, 7
	r, e := Answer(bound([]api.Pick{{Kind: 2}, {Kind: 3}}, list...), facts, 1)
	is(t, "how many", fmt.Sprint(len(r.Rows), int(e)), fmt.Sprint(62*7+1+20000, 0))
	is(t, "of the empty set", dump(api.Result{Rows: r.Rows[49:50]}, e), "[]: (20000 199990000)")
}
