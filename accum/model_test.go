package accum

import (
	"fmt"
	"math/big"
	"slices"
	"testing"

	"caisson/api"
)

// chance draws numbers, the same ones for the same seed.
type chance uint64

func (c *chance) below(n int) int {
	*c = *c*6364136223846793005 + 1442695040888963407
	return int(uint64(*c) >> 33 % uint64(n))
}

// number is small, or beside an edge, or any one.
func (c *chance) number() int64 {
	small := int64(c.below(9) - 4)
	switch c.below(4) {
	case 0:
		return least + 4 + small
	case 1:
		return greatest - 4 + small
	case 2:
		return int64(c.below(1<<31))<<33 ^ int64(c.below(1<<31))<<7 ^ small
	}
	return small
}

func (c *chance) sum() api.Sum {
	return api.Sum{Hi: c.number() >> c.below(64), Lo: uint64(c.number())}
}

func (c *chance) facts(many, meas int) [][]int64 {
	l := make([][]int64, many)
	for i := range l {
		for range c.below(meas + 1) {
			l[i] = append(l[i], c.number())
		}
	}
	return l
}

// plain is what is kept of some facts, told from all their numbers at one time.
func plain(meas int, facts [][]int64) api.Acc {
	a := api.Acc{Count: len(facts), Parts: make([]api.Part, meas)}
	for i := range a.Parts {
		var l []int64
		sum := new(big.Int)
		for _, f := range facts {
			if i < len(f) {
				l = append(l, f[i])
				sum.Add(sum, big.NewInt(f[i]))
			}
		}
		if len(l) > 0 {
			a.Parts[i] = api.Part{Any: true, Sum: halves(sum), Min: slices.Min(l), Max: slices.Max(l)}
		}
	}
	return a
}

func TestModelSums(t *testing.T) {
	c := chance(1)
	for range 20000 {
		a, b, n := c.sum(), c.sum(), c.number()
		got := fmt.Sprint(Add(a, n), Plus(a, b), Minus(a), " ", Text(a))
		want := fmt.Sprint(halves(new(big.Int).Add(great(a), big.NewInt(n))), halves(new(big.Int).Add(great(a), great(b))), halves(new(big.Int).Neg(great(a))), " ", great(a))
		is(t, fmt.Sprint(a, b, n), got, want)
		if v, ok := Value(a); ok != great(a).IsInt64() || ok && v != great(a).Int64() || !ok && v != 0 {
			t.Fatal(a, v, ok)
		}
	}
}

// parted takes facts in parts, some of which are parted again, and merges them in any order.
func (c *chance) parted(meas int, facts [][]int64) api.Acc {
	if len(facts) < 2 || c.below(4) == 0 {
		return of(meas, facts...)
	}
	at := c.below(len(facts) + 1)
	a, b := c.parted(meas, facts[:at]), c.parted(meas, facts[at:])
	if c.below(2) == 0 {
		a, b = b, a
	}
	return Merge(a, b)
}

func TestP134Parted(t *testing.T) {
	c := chance(2)
	for range 5000 {
		meas := c.below(api.MaxMeas + 1)
		facts := c.facts(c.below(12), meas)
		want := plain(meas, facts)
		is(t, fmt.Sprint("all of ", facts), of(meas, facts...), want)
		for range 4 {
			for i := range facts {
				j := c.below(i + 1)
				facts[i], facts[j] = facts[j], facts[i]
			}
			got := c.parted(meas, facts)
			is(t, fmt.Sprint("parts of ", facts), got, want)
			if !Valid(got, meas) || !Same(got, want) {
				t.Fatal(facts, got, Valid(got, meas))
			}
		}
	}
}

func TestP134Order(t *testing.T) {
	c := chance(3)
	for range 20000 {
		x, y, z := c.sum(), c.sum(), c.sum()
		is(t, fmt.Sprint(x, y, z), Plus(Plus(x, y), z), Plus(z, Plus(y, x)))
		is(t, fmt.Sprint("itself and ", x), Plus(x, Minus(x)), api.Sum{})
	}
	for _, a := range edges() {
		is(t, fmt.Sprint("itself and ", a), Plus(a, Minus(a)), api.Sum{})
	}
}

// TestP134True doubles a number as often as brings it to 2^63 of them.
func TestP134True(t *testing.T) {
	for _, n := range []int64{least, -1, 0, 1, greatest} {
		a := of(1, []int64{n})
		for double := range 64 {
			want := new(big.Int).Mul(big.NewInt(n), new(big.Int).Lsh(big.NewInt(1), uint(double)))
			is(t, fmt.Sprint(n, " doubled ", double), Text(a.Parts[0].Sum), want)
			a = Merge(a, a)
		}
	}
}

func TestP134TextsApart(t *testing.T) {
	seen := map[string]api.Sum{}
	for _, a := range edges() {
		if b, ok := seen[Text(a)]; ok && a != b {
			t.Errorf("%v and %v: both are %s", a, b, Text(a))
		}
		seen[Text(a)] = a
	}
}
