package group

import (
	"fmt"
	"slices"
	"strings"
	"testing"

	"caisson/accum"
	"caisson/api"
	"caisson/bind"
)

// chance draws numbers, the same ones for the same seed.
type chance uint64

func (c *chance) below(n int) int {
	*c = *c*6364136223846793005 + 1442695040888963407
	return int(uint64(*c) >> 33 % uint64(n))
}

func (c *chance) text() string {
	return []string{"", "p", "q", "pp", "1 p", "p\x00", "\xff"}[c.below(7)]
}

// facts makes some, each of so many dimensions at the least and at the most.
func (c *chance) facts(many, least, most int) []api.Fact {
	l := []api.Fact{}
	for range many {
		f := api.Fact{}
		for range least + c.below(most-least+1) {
			f.Dims = append(f.Dims, c.text())
		}
		for range c.below(4) {
			f.Meas = append(f.Meas, int64(c.below(9)-4)<<(c.below(3)*30))
		}
		l = append(l, f)
	}
	return l
}

// test makes one, nil or of some nodes, that asks some of the dimensions, and a measure, if that is meant.
func (c *chance) test(deep int, dims []int, meas bool) *api.Test {
	switch {
	case deep == 0 || c.below(5) == 0:
		return nil
	case c.below(3) > 0:
		return &api.Test{Kind: 1 + c.below(3), Left: c.test(deep-1, dims, meas), Right: c.test(deep-1, dims, meas)}
	case meas && c.below(3) == 0:
		return ofInt(c.below(3), 1+c.below(6), int64(c.below(5)-2))
	case len(dims) == 0:
		return &api.Test{}
	}
	t := ofText(dims[c.below(len(dims))], 1+c.below(6), c.text())
	if c.below(3) == 0 {
		t.Kind, t.Texts = api.CondIn, append(t.Texts, c.text())
	}
	return t
}

// dimsOf are the dimensions of a set.
func dimsOf(set int) []int {
	l := []int{}
	for d, one := range []int{1, 2, 4, 8, 16, 32} {
		if set&one != 0 {
			l = append(l, d)
		}
	}
	return l
}

// below tells whether a key stands ahead of another one: the first byte or text in which they differ says it.
func below(a, b []string) bool {
	for i := range a {
		if i == len(b) {
			return false
		}
		for j := range len(a[i]) {
			if j == len(b[i]) || a[i][j] > b[i][j] {
				return false
			}
			if a[i][j] < b[i][j] {
				return true
			}
		}
		if len(a[i]) < len(b[i]) {
			return true
		}
	}
	return len(a) < len(b)
}

// model puts rows into groups: each one into the row that has its key, or else to where its key belongs.
func model(rows []api.Row) []api.Row {
	l := []api.Row{}
	for _, r := range rows {
		at := 0
		for at < len(l) && below(l[at].Key, r.Key) {
			at++
		}
		if at < len(l) && fmt.Sprintf("%q", l[at].Key) == fmt.Sprintf("%q", r.Key) {
			l[at].Acc = accum.Merge(l[at].Acc, r.Acc)
		} else {
			l = slices.Insert(l, at, r)
		}
	}
	return l
}

// singles are the facts that count, each as a row of its own.
func singles(facts []api.Fact, where *api.Test, set, meas int) []api.Row {
	l := []api.Row{}
	for _, f := range facts {
		k, lacks := []string{}, false
		for _, d := range dimsOf(set) {
			if d < len(f.Dims) {
				k = append(k, f.Dims[d])
			} else {
				lacks = true
			}
		}
		if !lacks && (where == nil || bind.Holds(where, f)) {
			l = append(l, api.Row{Key: k, Acc: accum.Take(accum.New(meas), f.Meas)})
		}
	}
	return l
}

// setOf draws one that has not too many dimensions, so that facts meet in a group.
func (c *chance) setOf() int { return c.below(64) & c.below(64) }

func TestP141Model(t *testing.T) {
	met, none := 0, 0
	for seed := range 20000 {
		c := chance(seed)
		facts, set, meas := c.facts(c.below(30), c.below(7), 6), c.setOf(), c.below(5)
		where := c.test(4, dimsOf(63), true)
		want := model(singles(facts, where, set, meas))
		is(t, fmt.Sprint("seed ", seed), both(facts, where, set, meas), told(want))
		if len(want) > 1 && len(want) < len(singles(facts, where, set, meas)) {
			met++
		}
		if len(want) == 0 {
			none++
		}
	}
	is(t, fmt.Sprint("enough met: ", met, ", enough without any: ", none), met > 4000 && none > 1000, true)
}

// many facts in many groups
func TestP141Many(t *testing.T) {
	facts := []api.Fact{}
	for i := range 60000 {
		facts = append(facts, fact(fmt.Sprint(i%7, " ", i*7919%5000, " ", strings.Repeat("x", i%65), "."), int64(i)))
	}
	rows := Hash(facts, nil, 3, 1)
	is(t, "how many", len(rows), 35000)
	is(t, "the same", Same(rows, Sort(facts, nil, 3, 1)), true)
	is(t, "sorted", slices.IsSortedFunc(rows, func(a, b api.Row) int { return Compare(a.Key, b.Key) }), true)
	l, e := Regroup(rows, 3, 1)
	is(t, "to 1", fmt.Sprint(Same(l, Hash(facts, nil, 1, 1)), e == api.OK, len(l)), "true true 7")
}

// rows makes some, whatever keys and accumulators they have; of one length of keys, if it is not below 0.
func (c *chance) rows(many, length int) []api.Row {
	l := []api.Row{}
	for range many {
		r := api.Row{Acc: api.Acc{Count: c.below(5) - 1}}
		n := length
		if n < 0 {
			n = c.below(4)
		}
		for range n {
			r.Key = append(r.Key, c.text())
		}
		for range c.below(4) {
			p := part(int64(c.below(9)-4), int64(c.below(9)-4), int64(c.below(9)-4))
			p.Any = c.below(3) > 0
			r.Acc.Parts = append(r.Acc.Parts, p)
		}
		l = append(l, r)
	}
	return l
}

func TestP142MergeModel(t *testing.T) {
	for seed := range 10000 {
		c := chance(seed)
		a, b := c.rows(c.below(8), c.below(4)-1), c.rows(c.below(8), c.below(4)-1)
		is(t, fmt.Sprint("seed ", seed), told(Merge(a, b)), told(model(slices.Concat(a, b))))
	}
}

func TestP142RegroupModel(t *testing.T) {
	for seed := range 10000 {
		c := chance(seed)
		from := c.below(64)
		to := from & c.below(64)
		dims := dimsOf(from)
		rows, cut := c.rows(c.below(12), len(dims)), []api.Row{}
		for _, r := range rows {
			k := []string{}
			for i, d := range dims {
				if slices.Contains(dimsOf(to), d) {
					k = append(k, r.Key[i])
				}
			}
			cut = append(cut, api.Row{Key: k, Acc: r.Acc})
		}
		is(t, fmt.Sprint("seed ", seed), regrouped(Regroup(rows, from, to)), told(model(cut)))
	}
}

func TestP142FilterModel(t *testing.T) {
	kept, all := 0, 0
	for seed := range 10000 {
		c := chance(seed)
		from := c.below(64)
		dims := dimsOf(from)
		rows, where := c.rows(c.below(8), c.below(8)-1), c.test(4, dimsOf(63), true)
		want := []api.Row{}
		for _, r := range rows {
			f := api.Fact{}
			for d := range api.MaxDims {
				text := ""
				if i := slices.Index(dims, d); i >= 0 && i < len(r.Key) {
					text = r.Key[i]
				}
				f.Dims = append(f.Dims, text)
			}
			if where == nil || bind.Holds(where, f) {
				want = append(want, r)
			}
		}
		kept, all = kept+len(want), all+len(rows)
		is(t, fmt.Sprint("seed ", seed), told(Filter(rows, from, where)), told(want))
	}
	is(t, fmt.Sprint("enough kept: ", kept, " of ", all), kept > all/5 && kept < all*4/5, true)
}

// Grouping by a set, and regrouping to a lesser one, is grouping by the lesser one (of facts that have the set's dimensions).
func TestP143Lesser(t *testing.T) {
	for seed := range 5000 {
		c := chance(seed)
		facts, from := c.facts(c.below(20), 6, 8), c.below(64)
		to, meas, where := from&c.below(64), c.below(5), c.test(3, dimsOf(63), true)
		rows, e := Regroup(Hash(facts, where, from, meas), from, to)
		want := Hash(facts, where, to, meas)
		is(t, fmt.Sprint("seed ", seed), fmt.Sprint(told(rows), e), fmt.Sprint(told(want), api.OK))
		is(t, fmt.Sprint("seed ", seed, ": Same"), Same(rows, want), true)
	}
}

// Grouping two lists of facts, and merging, is grouping both together.
func TestP143Together(t *testing.T) {
	for seed := range 5000 {
		c := chance(seed)
		a, b, set := c.facts(c.below(12), c.below(7), 6), c.facts(c.below(12), c.below(7), 6), c.setOf()
		meas, where := c.below(5), c.test(3, dimsOf(63), true)
		got := Merge(Hash(a, where, set, meas), Sort(b, where, set, meas))
		is(t, fmt.Sprint("seed ", seed), told(got), both(slices.Concat(a, b), where, set, meas))
		is(t, fmt.Sprint("seed ", seed, ": turned round"), told(Merge(Sort(b, where, set, meas), Hash(a, where, set, meas))), told(got))
	}
}

// Filtering groups by a test that asks just the set's dimensions is grouping the filtered facts.
func TestP143Filtered(t *testing.T) {
	for seed := range 5000 {
		c := chance(seed)
		facts, set, meas := c.facts(c.below(20), c.below(7), 6), c.below(64), c.below(5)
		where := c.test(4, dimsOf(set), false)
		is(t, fmt.Sprint("seed ", seed), told(Filter(Hash(facts, nil, set, meas), set, where)), both(facts, where, set, meas))
	}
}

// The Counts together are how many facts were taken.
func TestP143Counts(t *testing.T) {
	for seed := range 5000 {
		c := chance(seed)
		facts, set, where := c.facts(c.below(20), c.below(7), 6), c.setOf(), c.test(4, dimsOf(63), true)
		for _, rows := range [][]api.Row{Hash(facts, where, set, 1), Sort(facts, where, set, 1)} {
			many := 0
			for _, r := range rows {
				many += r.Acc.Count
			}
			is(t, fmt.Sprint("seed ", seed), many, len(singles(facts, where, set, 1)))
		}
	}
}
