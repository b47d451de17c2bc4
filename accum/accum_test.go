package accum

import (
	"fmt"
	"math"
	"math/big"
	"testing"

	"caisson/api"
)

func is(t *testing.T, what string, got, want any) {
	t.Helper()
	if g, w := fmt.Sprint(got), fmt.Sprint(want); g != w {
		t.Errorf("%.300s: %.400s, want %.400s", what, g, w)
	}
}

const (
	least    = math.MinInt64
	greatest = math.MaxInt64
)

// part is one with a number: its sum (of one half), its least and its greatest.
func part(sum, low, high int64) api.Part {
	return api.Part{Any: true, Sum: api.Sum{Hi: sum >> 63, Lo: uint64(sum)}, Min: low, Max: high}
}

// wrong is a part without a number that holds something all the same.
var wrong = api.Part{Sum: api.Sum{Hi: 1, Lo: 5}, Min: -9, Max: 9}

func acc(count int, parts ...api.Part) api.Acc { return api.Acc{Count: count, Parts: parts} }

// of is what is taken of some facts, one behind the other.
func of(meas int, facts ...[]int64) api.Acc {
	a := New(meas)
	for _, f := range facts {
		a = Take(a, f)
	}
	return a
}

func TestExamples(t *testing.T) {
	a := Add(api.Sum{Lo: 5}, -7)
	is(t, "Add", a, api.Sum{Hi: -1, Lo: 1<<64 - 2})
	n, ok := Value(a)
	is(t, "its Value", fmt.Sprint(n, ok), "-2 true")
	is(t, "its Text", Text(a), "-2")
	b := Plus(api.Sum{Lo: greatest}, api.Sum{Lo: greatest})
	is(t, "Plus", b, api.Sum{Lo: 1<<64 - 2})
	n, ok = Value(b)
	is(t, "its Value", fmt.Sprint(n, ok), "0 false")
	is(t, "its Text", Text(b), "18446744073709551614")
	is(t, "Minus", Minus(api.Sum{Hi: least}), api.Sum{Hi: least})
	c := Take(Take(New(1), []int64{5}), []int64{-3})
	is(t, "Take", c, acc(2, part(2, -3, 5)))
	is(t, "Merge", Merge(c, New(1)), c)
}

// round is 2^128: what is reckoned goes round there.
var round = new(big.Int).Lsh(big.NewInt(1), 128)

// great and halves are a sum as a great number, and a great number as a sum.
func great(a api.Sum) *big.Int {
	n := new(big.Int).Lsh(big.NewInt(a.Hi), 64)
	return n.Add(n, new(big.Int).SetUint64(a.Lo))
}

func halves(n *big.Int) api.Sum {
	m := new(big.Int).Mod(n, round)
	hi := new(big.Int).Rsh(m, 64).Uint64()
	lo := new(big.Int).And(m, new(big.Int).SetUint64(1<<64-1)).Uint64()
	return api.Sum{Hi: int64(hi), Lo: lo}
}

// edges are the sums beside which something turns: in the halves, and at each count of digits.
func edges() []api.Sum {
	var l []api.Sum
	for _, hi := range []int64{least, least + 1, -1 << 32, -2, -1, 0, 1, 9, 10, 1 << 32, greatest - 1, greatest} {
		for _, lo := range []uint64{0, 1, 5, 9, 10, 1<<32 - 1, 1 << 32, 1<<63 - 1, 1 << 63, 1<<63 + 1, 1<<64 - 2, 1<<64 - 1} {
			l = append(l, api.Sum{Hi: hi, Lo: lo})
		}
	}
	ten := big.NewInt(1)
	for range 39 {
		for _, beside := range []int64{-1, 0, 1} {
			n := new(big.Int).Add(ten, big.NewInt(beside))
			l = append(l, halves(n), halves(n.Neg(n)))
		}
		ten = new(big.Int).Mul(ten, big.NewInt(10))
	}
	return l
}

func TestP131Add(t *testing.T) {
	for _, a := range edges() {
		for _, n := range []int64{least, least + 1, -7, -1, 0, 1, 7, greatest - 1, greatest} {
			is(t, fmt.Sprint("Add of ", a, n), Add(a, n), halves(new(big.Int).Add(great(a), big.NewInt(n))))
		}
	}
	is(t, "round above", Add(api.Sum{Hi: greatest, Lo: 1<<64 - 1}, 1), api.Sum{Hi: least})
	is(t, "round below", Add(api.Sum{Hi: least}, -1), api.Sum{Hi: greatest, Lo: 1<<64 - 1})
}

func TestP131Plus(t *testing.T) {
	for _, a := range edges() {
		for _, b := range edges() {
			if got, want := Plus(a, b), halves(new(big.Int).Add(great(a), great(b))); got != want {
				t.Fatalf("Plus of %v and %v: %v, want %v", a, b, got, want)
			}
		}
	}
}

func TestP131Minus(t *testing.T) {
	for _, a := range edges() {
		is(t, fmt.Sprint("Minus of ", a), Minus(a), halves(new(big.Int).Neg(great(a))))
	}
	is(t, "of nothing", Minus(api.Sum{}), api.Sum{})
}

func TestP131Value(t *testing.T) {
	for _, a := range edges() {
		want := "0 false"
		if g := great(a); g.IsInt64() {
			want = fmt.Sprint(g.Int64(), true)
		}
		n, ok := Value(a)
		is(t, fmt.Sprint("Value of ", a), fmt.Sprint(n, ok), want)
	}
	for _, n := range []int64{least, -1, 0, 1, greatest} {
		got, ok := Value(Add(api.Sum{}, n))
		is(t, fmt.Sprint("Value of ", n), fmt.Sprint(got, ok), fmt.Sprint(n, true))
	}
}

func TestP131Text(t *testing.T) {
	for _, a := range edges() {
		is(t, fmt.Sprint("Text of ", a), Text(a), great(a).String())
	}
	is(t, "the least", Text(api.Sum{Hi: least}), "-170141183460469231731687303715884105728")
	is(t, "the greatest", Text(api.Sum{Hi: greatest, Lo: 1<<64 - 1}), "170141183460469231731687303715884105727")
	is(t, "0", Text(api.Sum{}), "0")
}

func TestP132New(t *testing.T) {
	for meas, want := range map[int]int{least: 0, -1: 0, 0: 0, 1: 1, 2: 2, 3: 3, 4: 4, 5: 4, greatest: 4} {
		is(t, fmt.Sprint("New of ", meas), fmt.Sprintf("%+v", New(meas)), fmt.Sprintf("%+v", acc(0, make([]api.Part, want)...)))
	}
	a, b := New(2), New(2)
	a.Parts[0].Any = true
	is(t, "each of its own", b, acc(0, api.Part{}, api.Part{}))
}

func TestP132Take(t *testing.T) {
	for _, c := range []struct {
		what string
		a    api.Acc
		meas []int64
		want api.Acc
	}{
		{"the first", New(2), []int64{7, -7}, acc(1, part(7, 7, 7), part(-7, -7, -7))},
		{"the first, above 0", New(1), []int64{3}, acc(1, part(3, 3, 3))},
		{"the first, of 0", New(1), []int64{0}, acc(1, part(0, 0, 0))},
		{"a lesser one", acc(1, part(3, 3, 3)), []int64{-4}, acc(2, part(-1, -4, 3))},
		{"a greater one", acc(1, part(3, 3, 3)), []int64{4}, acc(2, part(7, 3, 4))},
		{"one between", acc(2, part(3, 1, 9)), []int64{5}, acc(3, part(8, 1, 9))},
		{"the edges", acc(1, part(0, 0, 0)), []int64{least}, acc(2, part(least, least, 0))},
		{"no number", acc(1, part(3, 3, 3), part(4, 4, 4)), nil, acc(2, part(3, 3, 3), part(4, 4, 4))},
		{"fewer numbers", New(3), []int64{1}, acc(1, part(1, 1, 1), api.Part{}, api.Part{})},
		{"more numbers", New(1), []int64{1, 2, 3, 4, 5}, acc(1, part(1, 1, 1))},
		{"no part", New(0), []int64{1}, acc(1)},
		{"a zero one", api.Acc{}, []int64{1}, acc(1)},
		{"more parts than measures may be", acc(0, make([]api.Part, 6)...), []int64{1, 2, 3, 4, 5}, acc(1, part(1, 1, 1), part(2, 2, 2), part(3, 3, 3), part(4, 4, 4), part(5, 5, 5), api.Part{})},
		{"a Count below 0", acc(-5, api.Part{}), []int64{1}, acc(-4, part(1, 1, 1))},
		{"a Part without Any that holds something", acc(1, wrong), []int64{2}, acc(2, api.Part{Any: true, Sum: api.Sum{Hi: 1, Lo: 7}, Min: 2, Max: 2})},
		{"such a Part without a number", acc(1, wrong), nil, acc(2, wrong)},
		{"least above greatest", acc(1, part(0, 5, -5)), []int64{0}, acc(2, part(0, 0, 0))},
	} {
		is(t, c.what, Take(c.a, c.meas), c.want)
	}
	a := of(1, []int64{greatest}, []int64{greatest})
	is(t, "beyond an int64", a.Parts[0].Sum, api.Sum{Lo: 1<<64 - 2})
	is(t, "back again", Take(a, []int64{-greatest}).Parts[0].Sum, api.Sum{Lo: greatest})
}

func TestP132Merge(t *testing.T) {
	for _, c := range []struct {
		what       string
		a, b, want api.Acc
	}{
		{"both", acc(2, part(3, 1, 2)), acc(3, part(12, 3, 5)), acc(5, part(15, 1, 5))},
		{"the other way round", acc(3, part(12, 3, 5)), acc(2, part(3, 1, 2)), acc(5, part(15, 1, 5))},
		{"one within", acc(2, part(9, 0, 9)), acc(2, part(9, 4, 5)), acc(4, part(18, 0, 9))},
		{"the left alone", acc(1, part(3, 3, 3)), acc(2, api.Part{}), acc(3, part(3, 3, 3))},
		{"the right alone", acc(2, api.Part{}), acc(1, part(3, 3, 3)), acc(3, part(3, 3, 3))},
		{"the left alone, the right holds something", acc(1, part(3, 3, 3)), acc(2, wrong), acc(3, part(3, 3, 3))},
		{"the right alone, the left holds something", acc(2, wrong), acc(1, part(3, 3, 3)), acc(3, part(3, 3, 3))},
		{"none", acc(1, api.Part{}), acc(1, api.Part{}), acc(2, api.Part{})},
		{"none, they hold something", acc(1, wrong), acc(1, wrong), acc(2, api.Part{})},
		{"a longer left", acc(1, part(3, 3, 3), part(4, 4, 4)), acc(1, part(1, 1, 1)), acc(2, part(4, 1, 3), part(4, 4, 4))},
		{"a longer right", acc(1, part(1, 1, 1)), acc(1, part(3, 3, 3), part(4, 4, 4)), acc(2, part(4, 1, 3), part(4, 4, 4))},
		{"a longer left that holds something", acc(1, api.Part{}, wrong), acc(1, api.Part{}), acc(2, api.Part{}, wrong)},
		{"a longer right that holds something", acc(1, api.Part{}), acc(1, api.Part{}, wrong), acc(2, api.Part{}, wrong)},
		{"no parts", acc(1), acc(2), acc(3)},
		{"a left without parts", acc(1), acc(2, part(1, 1, 1)), acc(3, part(1, 1, 1))},
		{"a right without parts", acc(2, part(1, 1, 1)), acc(1), acc(3, part(1, 1, 1))},
		{"more parts than measures may be", acc(1, make([]api.Part, 6)...), acc(1, api.Part{}, api.Part{}, api.Part{}, api.Part{}, part(1, 1, 1)), acc(2, api.Part{}, api.Part{}, api.Part{}, api.Part{}, part(1, 1, 1), api.Part{})},
		{"zero ones", api.Acc{}, api.Acc{}, api.Acc{}},
		{"beyond an int64", acc(1, part(greatest, greatest, greatest)), acc(1, part(greatest, greatest, greatest)), acc(2, api.Part{Any: true, Sum: api.Sum{Lo: 1<<64 - 2}, Min: greatest, Max: greatest})},
		{"Counts below 0", acc(-2), acc(-3), acc(-5)},
	} {
		is(t, c.what, Merge(c.a, c.b), c.want)
	}
}

func TestP132Memory(t *testing.T) {
	spoil := func(a api.Acc) {
		for i := range a.Parts {
			a.Parts[i] = wrong
		}
		_ = append(a.Parts[:len(a.Parts):cap(a.Parts)], wrong)
	}
	two := func() api.Acc { return of(2, []int64{1, 2}, []int64{3, 4}) }
	a, b, meas := two(), two(), []int64{5, 6}
	spoil(Take(a, meas))
	spoil(Take(a, nil))
	spoil(Merge(a, b))
	spoil(Merge(a, New(2)))
	spoil(Merge(New(2), b))
	spoil(Merge(a, New(0)))
	spoil(Merge(New(0), b))
	is(t, "what was handed in", fmt.Sprint(a, b, meas), fmt.Sprint(two(), two(), []int64{5, 6}))
	taken, merged, longer := Take(a, meas), Merge(a, b), Merge(New(0), b)
	spoil(a)
	spoil(b)
	meas[0] = 99
	is(t, "what was told", fmt.Sprint(taken, merged, longer), fmt.Sprint(of(2, []int64{1, 2}, []int64{3, 4}, []int64{5, 6}), of(2, []int64{1, 2}, []int64{3, 4}, []int64{1, 2}, []int64{3, 4}), two()))
}

func TestP132RoomBehind(t *testing.T) {
	room := []api.Part{part(1, 1, 1), part(2, 2, 2), part(3, 3, 3)}
	a := api.Acc{Count: 1, Parts: room[:1]}
	Take(a, []int64{7, 7, 7})
	Merge(a, of(3, []int64{8, 8, 8}))
	Merge(of(3, []int64{8, 8, 8}), a)
	is(t, "what lies behind a list", room, []api.Part{part(1, 1, 1), part(2, 2, 2), part(3, 3, 3)})
}

func TestP133Same(t *testing.T) {
	a := func() api.Acc { return of(2, []int64{1, 2}, []int64{3, -4}) }
	is(t, "the same", Same(a(), a()), true)
	is(t, "zero ones", Same(api.Acc{}, api.Acc{}), true)
	is(t, "nil and empty", Same(api.Acc{}, New(0)), true)
	for what, change := range map[string]func(a *api.Acc){
		"Count": func(a *api.Acc) { a.Count++ },
		"none":  func(a *api.Acc) { a.Parts = nil },
		"fewer": func(a *api.Acc) { a.Parts = a.Parts[:1] },
		"more":  func(a *api.Acc) { a.Parts = append(a.Parts, api.Part{}) },
		"order": func(a *api.Acc) { a.Parts[0], a.Parts[1] = a.Parts[1], a.Parts[0] },
		"Any":   func(a *api.Acc) { a.Parts[1].Any = false },
		"Hi":    func(a *api.Acc) { a.Parts[1].Sum.Hi++ },
		"Lo":    func(a *api.Acc) { a.Parts[1].Sum.Lo++ },
		"Min":   func(a *api.Acc) { a.Parts[1].Min++ },
		"Max":   func(a *api.Acc) { a.Parts[0].Max++ },
	} {
		b := a()
		change(&b)
		is(t, what, fmt.Sprint(Same(a(), b), Same(b, a()), Same(b, b)), "false false true")
	}
	is(t, "of a Part without Any, too", Same(acc(1, wrong), acc(1, api.Part{})), false)
	is(t, "as none, of 1 and 2", Same(New(1), New(2)), false)
}

func TestP133Valid(t *testing.T) {
	for _, c := range []struct {
		what string
		a    api.Acc
		meas int
		want bool
	}{
		{"as none", New(3), 3, true},
		{"no measures", New(0), 0, true},
		{"a zero one", api.Acc{}, 0, true},
		{"facts without measures", acc(5), 0, true},
		{"a Part", acc(1, part(1, 1, 1)), 1, true},
		{"Parts, some without Any", acc(1, part(1, 1, 1), api.Part{}), 2, true},
		{"none has Any", acc(7, api.Part{}, api.Part{}), 2, true},
		{"fewer Parts", acc(1, part(1, 1, 1)), 2, false},
		{"more Parts", acc(1, part(1, 1, 1)), 0, false},
		{"meas below 0", api.Acc{}, -1, false},
		{"more than measures may be", acc(0, make([]api.Part, 5)...), 5, true},
		{"many more", acc(0, make([]api.Part, 5)...), greatest, false},
		{"a Count below 0", acc(-1), 0, false},
		{"a Count below 0, with Any", acc(-1, part(1, 1, 1)), 1, false},
		{"Any and a Count of 0", acc(0, part(1, 1, 1)), 1, false},
		{"Min at Max", acc(2, part(10, 5, 5)), 1, true},
		{"Min above Max", acc(2, part(10, 6, 5)), 1, false},
		{"the edges", acc(2, part(-1, least, greatest)), 1, true},
		{"the edges turned", acc(2, part(-1, greatest, least)), 1, false},
		{"not Any, Hi", acc(1, api.Part{Sum: api.Sum{Hi: 1}}), 1, false},
		{"not Any, Lo", acc(1, api.Part{Sum: api.Sum{Lo: 1}}), 1, false},
		{"not Any, Min", acc(1, api.Part{Min: -1}), 1, false},
		{"not Any, Max", acc(1, api.Part{Max: 1}), 1, false},
		{"the last Part", acc(1, part(1, 1, 1), part(1, 1, 1), api.Part{Max: 1}), 3, false},
		{"the first Part", acc(1, part(1, 2, 1), part(1, 1, 1)), 2, false},
		{"a Sum that can't be", acc(1, part(99, 1, 1)), 1, true},
	} {
		is(t, c.what, Valid(c.a, c.meas), c.want)
	}
}
