package group

import (
	"fmt"
	"math"
	"slices"
	"testing"

	"caisson/api"
	"caisson/sets"
)

func TestP142Regroup(t *testing.T) {
	all := func() []api.Row {
		return []api.Row{row("x p r", 1, part(1, 1, 1)), row("x q r", 2, part(5, 2, 3)), row("y p r", 3, part(-6, -3, -1)), row("y p s", 1, api.Part{})}
	}
	for to, want := range map[int]string{
		0:  `[] 7 0/-3/3`,
		1:  `["x"] 3 6/1/3; ["y"] 4 -6/-3/-1`,
		4:  `["p"] 5 -5/-3/1; ["q"] 2 5/2/3`,
		32: `["r"] 6 0/-3/3; ["s"] 1 {false {0 0} 0 0}`,
		5:  `["x" "p"] 1 1/1/1; ["x" "q"] 2 5/2/3; ["y" "p"] 4 -6/-3/-1`,
		33: `["x" "r"] 3 6/1/3; ["y" "r"] 3 -6/-3/-1; ["y" "s"] 1 {false {0 0} 0 0}`,
		36: `["p" "r"] 4 -5/-3/1; ["p" "s"] 1 {false {0 0} 0 0}; ["q" "r"] 2 5/2/3`,
		37: told(all()),
	} {
		is(t, fmt.Sprint("to ", to), regrouped(Regroup(all(), 37, to)), want)
		turned := all()
		slices.Reverse(turned)
		is(t, fmt.Sprint("turned round, to ", to), regrouped(Regroup(turned, 37, to)), want)
	}
	is(t, "no rows", regrouped(Regroup(nil, 63, 0)), "")
	is(t, "the empty set", regrouped(Regroup([]api.Row{row("", 2)}, 0, 0)), "[] 2")
	is(t, "rows of one key", regrouped(Regroup([]api.Row{row("b", 1), row("a", 2), row("b", 4)}, 2, 2)), `["a"] 2; ["b"] 5`)
	six := []api.Row{row("a b c d e f", 1)}
	for from := range 64 {
		for to := range 64 {
			want := badArg
			rows := []api.Row{{Key: sets.Names(six[0].Key, from), Acc: six[0].Acc}}
			if from|to == from {
				want = fmt.Sprintf("%q 1", sets.Names(six[0].Key, to))
			}
			is(t, fmt.Sprint("from ", from, " to ", to), regrouped(Regroup(rows, from, to)), want)
		}
	}
}

func TestP142RegroupWrong(t *testing.T) {
	for _, c := range []struct {
		what     string
		rows     []api.Row
		from, to int
	}{
		{"from below", nil, -1, 0},
		{"from above", nil, 64, 0},
		{"both above", nil, 64, 64},
		{"to below", nil, 63, -1},
		{"to above", nil, 63, 64},
		{"to below, from below", nil, -1, -1},
		{"least", nil, math.MinInt, 0},
		{"greatest", nil, math.MaxInt, 0},
		{"to least", nil, 0, math.MinInt},
		{"to greatest", nil, 63, math.MaxInt},
		{"a dimension that from hasn't", nil, 1, 2},
		{"one more", nil, 3, 7},
		{"of none", nil, 0, 32},
		{"a text too few", []api.Row{row("x", 1)}, 3, 1},
		{"a text too many", []api.Row{row("x p r", 1)}, 3, 1},
		{"none", []api.Row{row("", 1)}, 1, 0},
		{"one of none", []api.Row{row("x", 1)}, 0, 0},
		{"the last one", []api.Row{row("x p", 1), row("y p", 1), row("z", 1)}, 3, 0},
		{"the first one", []api.Row{row("x p r", 1), row("y p", 1), row("z p", 1)}, 3, 3},
		{"one within", []api.Row{row("x p", 1), {}, row("z p", 1)}, 3, 0},
	} {
		is(t, c.what, regrouped(Regroup(c.rows, c.from, c.to)), badArg)
	}
}

func TestP142Merge(t *testing.T) {
	x, y := row("x", 1, part(1, 1, 1)), row("y", 2, part(5, 2, 3))
	for _, c := range []struct {
		what string
		a, b []api.Row
		want string
	}{
		{"none", nil, nil, ""},
		{"the left alone", []api.Row{x, y}, nil, `["x"] 1 1/1/1; ["y"] 2 5/2/3`},
		{"the right alone", nil, []api.Row{x, y}, `["x"] 1 1/1/1; ["y"] 2 5/2/3`},
		{"one of each", []api.Row{x}, []api.Row{y}, `["x"] 1 1/1/1; ["y"] 2 5/2/3`},
		{"the other way round", []api.Row{y}, []api.Row{x}, `["x"] 1 1/1/1; ["y"] 2 5/2/3`},
		{"the same", []api.Row{x, y}, []api.Row{x, y}, `["x"] 2 2/1/1; ["y"] 4 10/2/3`},
		{"some", []api.Row{x}, []api.Row{row("x", 4, part(-8, -8, 0)), y}, `["x"] 5 -7/-8/1; ["y"] 2 5/2/3`},
		{"out of order, several of a key", []api.Row{y, x, y}, []api.Row{y, x}, `["x"] 2 2/1/1; ["y"] 6 15/2/3`},
		{"keys of other lengths", []api.Row{row("x y", 1), row("", 1), x}, []api.Row{row("", 2), row("x .", 1), row(".", 8), row("x y", 3)}, `[] 3; [""] 8; ["x"] 1 1/1/1; ["x" ""] 1; ["x" "y"] 4`},
		{"zero ones", []api.Row{{}, {}}, []api.Row{{}}, `[] 0`},
		{"other Parts", []api.Row{row("x", 1)}, []api.Row{row("x", 1, part(1, 1, 1), part(2, 2, 2)), row("x", 1, part(7, 7, 7))}, `["x"] 3 8/1/7 2/2/2`},
		{"one that may not be stays", []api.Row{row("x", -3, wrong)}, nil, `["x"] -3 {false {1 5} -9 9}`},
		{"two of them do not", []api.Row{row("x", 1, wrong)}, []api.Row{row("x", 1, wrong)}, `["x"] 2 {false {0 0} 0 0}`},
		{"some of them, with fewer Parts", []api.Row{row("x", 1, api.Part{}, wrong)}, []api.Row{row("x", 1, wrong), row("x", 1, wrong, part(1, 1, 1))}, `["x"] 3 {false {0 0} 0 0} 1/1/1`},
		{"many Parts", []api.Row{row("x", 1, make([]api.Part, 6)...)}, []api.Row{row("x", 1)}, `["x"] 2` + told([]api.Row{row("", 0, make([]api.Part, 6)...)})[4:]},
		{"round", []api.Row{row("x", 1, api.Part{Any: true, Sum: api.Sum{Hi: math.MaxInt64, Lo: math.MaxUint64}})}, []api.Row{row("x", 1, part(1, 1, 1))}, fmt.Sprintf(`["x"] 2 {true {%d 0} 0 1}`, math.MinInt64)},
	} {
		is(t, c.what, told(Merge(c.a, c.b)), c.want)
	}
	is(t, "of all keys", len(Merge(keys(), keys())), len(order))
	for i, r := range Merge(reversed(), keys()) {
		is(t, fmt.Sprint("row ", i), told([]api.Row{r}), fmt.Sprintf("%q 2", order[i]))
	}
}

// keys are rows of all keys of order.
func keys() []api.Row {
	l := []api.Row{}
	for _, k := range order {
		l = append(l, api.Row{Key: slices.Clone(k), Acc: api.Acc{Count: 1}})
	}
	return l
}

func reversed() []api.Row {
	l := keys()
	slices.Reverse(l)
	return l
}

// Accumulators that may not be are merged as accum.Merge has it, and stay as they are where they stand alone.
func TestP142Strange(t *testing.T) {
	l := []api.Row{row("x a", 1, wrong), row("x b", 1, wrong, wrong), row("x c", 1)}
	is(t, "several", regrouped(Regroup(l, 3, 1)), `["x"] 3 {false {0 0} 0 0} {false {1 5} -9 9}`)
	l = []api.Row{row("x a", 1), row("x b", 1, wrong)}
	is(t, "one that has no Part", regrouped(Regroup(l, 3, 1)), `["x"] 2 {false {1 5} -9 9}`)
	l = []api.Row{row("x b", 1, wrong), row("x a", 1, part(1, 1, 1))}
	is(t, "one that has a number", regrouped(Regroup(l, 3, 1)), `["x"] 2 1/1/1`)
	is(t, "one alone", regrouped(Regroup(l[:1], 3, 1)), `["x"] 1 {false {1 5} -9 9}`)
}

func TestP142Filter(t *testing.T) {
	all := func() []api.Row {
		return []api.Row{row("y p", 1, part(1, 1, 1)), row("x q", 2, wrong), row("x p", 3), row("y p", 4)}
	}
	ring := not(nil)
	ring.Left = ring
	for _, c := range []struct {
		what  string
		from  int
		where *api.Test
		want  string
	}{
		{"all", 3, nil, told(all())},
		{"all, of no set", -1, nil, told(all())},
		{"all, of another set", 4, nil, told(all())},
		{"the first text", 3, ofText(0, api.Equal, "x"), `["x" "q"] 2 {false {1 5} -9 9}; ["x" "p"] 3`},
		{"the second text", 3, ofText(1, api.Equal, "p"), `["y" "p"] 1 1/1/1; ["x" "p"] 3; ["y" "p"] 4`},
		{"of dimensions 1 and 5", 34, ofText(5, api.Equal, "p"), `["y" "p"] 1 1/1/1; ["x" "p"] 3; ["y" "p"] 4`},
		{"of dimension 1", 34, ofText(1, api.Equal, "y"), `["y" "p"] 1 1/1/1; ["y" "p"] 4`},
		{"of none of them", 34, ofText(0, api.Equal, ""), told(all())},
		{"of none of them, beside", 34, ofText(4, api.Unequal, ""), ""},
		{"behind the last one", 34, ofText(6, api.AtLeast, ""), ""},
		{"not behind the last one", 34, not(ofText(6, api.AtLeast, "")), told(all())},
		{"of dimension -1", 34, ofText(-1, api.AtLeast, ""), ""},
		{"a measure", 3, ofInt(0, api.AtLeast, math.MinInt64), ""},
		{"no measure", 3, not(ofInt(0, api.AtLeast, math.MinInt64)), told(all())},
		{"fewer texts", 7, ofText(2, api.Equal, ""), told(all())},
		{"fewer texts, the first ones", 7, ofText(0, api.Equal, "y"), `["y" "p"] 1 1/1/1; ["y" "p"] 4`},
		{"fewer texts, beside", 7, ofText(2, api.Unequal, ""), ""},
		{"more texts", 2, ofText(1, api.Equal, "y"), `["y" "p"] 1 1/1/1; ["y" "p"] 4`},
		{"more texts, behind it", 2, ofText(2, api.Equal, ""), told(all())},
		{"more texts, ahead of it", 2, ofText(0, api.Equal, ""), told(all())},
		{"no set: the texts count for nothing", 64, ofText(0, api.Equal, ""), told(all())},
		{"no set below", -1, ofText(0, api.Equal, "x"), ""},
		{"the greatest", math.MaxInt, ofText(5, api.Equal, ""), told(all())},
		{"the least", math.MinInt, ofText(5, api.Unequal, ""), ""},
		{"the empty set", 0, ofText(0, api.Equal, "x"), ""},
		{"the empty set, empty texts", 0, ofText(5, api.Equal, ""), told(all())},
		{"a zero test", 3, &api.Test{}, ""},
		{"many nodes", 3, nots(4095), told(all())},
		{"too many nodes", 3, nots(4097), ""},
		{"a ring", 3, ring, ""},
	} {
		is(t, c.what, told(Filter(all(), c.from, c.where)), c.want)
	}
	is(t, "no rows", told(Filter(nil, 3, ofText(0, api.Equal, "x"))), "")
	is(t, "no rows, no test", told(Filter(nil, 3, nil)), "")
	six := []api.Row{row("a b c d e f", 1), row("a b c d e f g", 2), row("a b c d e", 3), row("", 4)}
	for d, text := range key("a b c d e f") {
		want := told(six[:3])
		if d == 5 {
			want = told(six[:2])
		}
		is(t, fmt.Sprint("of six ", d), told(Filter(six, 63, ofText(d, api.Equal, text))), want)
	}
}

func TestP142Same(t *testing.T) {
	made := func() []api.Row {
		return []api.Row{row("x p", 1, part(1, 1, 1)), row("y .", 2, part(5, 2, 3), wrong)}
	}
	is(t, "the same", Same(made(), made()), true)
	is(t, "nil and empty", Same(nil, []api.Row{}), true)
	is(t, "nil and empty within", Same([]api.Row{{}}, []api.Row{{Key: []string{}, Acc: api.Acc{Parts: []api.Part{}}}}), true)
	for what, change := range map[string]func(l []api.Row) []api.Row{
		"none":            func(l []api.Row) []api.Row { return nil },
		"fewer":           func(l []api.Row) []api.Row { return l[:1] },
		"the last alone":  func(l []api.Row) []api.Row { return l[1:] },
		"more":            func(l []api.Row) []api.Row { return append(l, api.Row{}) },
		"order":           func(l []api.Row) []api.Row { slices.Reverse(l); return l },
		"a text":          func(l []api.Row) []api.Row { l[1].Key[1] = "p"; return l },
		"the first text":  func(l []api.Row) []api.Row { l[0].Key[0] = "X"; return l },
		"texts joined":    func(l []api.Row) []api.Row { l[0].Key = []string{"xp", ""}; return l },
		"a text less":     func(l []api.Row) []api.Row { l[1].Key = l[1].Key[:1]; return l },
		"a text more":     func(l []api.Row) []api.Row { l[0].Key = append(l[0].Key, ""); return l },
		"no key":          func(l []api.Row) []api.Row { l[0].Key = nil; return l },
		"Count":           func(l []api.Row) []api.Row { l[0].Acc.Count++; return l },
		"Any":             func(l []api.Row) []api.Row { l[1].Acc.Parts[1].Any = true; return l },
		"Sum":             func(l []api.Row) []api.Row { l[1].Acc.Parts[0].Sum.Hi++; return l },
		"Min":             func(l []api.Row) []api.Row { l[1].Acc.Parts[0].Min--; return l },
		"Max":             func(l []api.Row) []api.Row { l[0].Acc.Parts[0].Max++; return l },
		"fewer Parts":     func(l []api.Row) []api.Row { l[1].Acc.Parts = l[1].Acc.Parts[:1]; return l },
		"more Parts":      func(l []api.Row) []api.Row { l[0].Acc.Parts = append(l[0].Acc.Parts, api.Part{}); return l },
		"what may not be": func(l []api.Row) []api.Row { l[1].Acc.Parts[1] = api.Part{}; return l },
	} {
		b := change(made())
		is(t, what, fmt.Sprint(Same(made(), b), Same(b, made()), Same(b, b)), "false false true")
	}
}

func TestP142Memory(t *testing.T) {
	made := func() []api.Row {
		return []api.Row{row("y p", 1, part(1, 1, 1)), row("x q", 2, part(5, 2, 3)), row("x p", 3, api.Part{}), row("z q", 3)}
	}
	where := ofText(1, api.AtLeast, "p")
	for what, do := range map[string]func(a, b []api.Row) []api.Row{
		"Regroup":          func(a, b []api.Row) []api.Row { l, _ := Regroup(a, 3, 1); return l },
		"Regroup to all":   func(a, b []api.Row) []api.Row { l, _ := Regroup(a, 3, 3); return l },
		"Regroup to none":  func(a, b []api.Row) []api.Row { l, _ := Regroup(a, 3, 0); return l },
		"Merge":            Merge,
		"Merge with none":  func(a, b []api.Row) []api.Row { return Merge(a, nil) },
		"Merge of none":    func(a, b []api.Row) []api.Row { return Merge(nil, b) },
		"Merge of itself":  func(a, b []api.Row) []api.Row { return Merge(a, a) },
		"Merge of a piece": func(a, b []api.Row) []api.Row { return Merge(a[:1], b[2:]) },
		"Filter":           func(a, b []api.Row) []api.Row { return Filter(a, 3, where) },
		"Filter of all":    func(a, b []api.Row) []api.Row { return Filter(a, 3, nil) },
		"Filter of one":    func(a, b []api.Row) []api.Row { return Filter(a, 3, ofText(0, api.Equal, "y")) },
	} {
		a, b := made(), made()
		spoil(do(a, b))
		is(t, what+": what was handed in", told(a)+told(b), told(made())+told(made()))
		l := do(a, b)
		want := told(l)
		spoil(a)
		spoil(b)
		is(t, what+": what was told", told(l), want)
		apart(t, what, l)
	}
}

// Two rows that lie in the same memory are told apart from one another.
func TestP142Shared(t *testing.T) {
	r := row("x p", 1, part(1, 1, 1))
	other := api.Row{Key: []string{"y", "p"}, Acc: r.Acc}
	apart(t, "Filter", Filter([]api.Row{r, r, other}, 3, nil))
	apart(t, "Merge", Merge([]api.Row{r}, []api.Row{other}))
	l, _ := Regroup([]api.Row{r, other}, 3, 3)
	apart(t, "Regroup", l)
	l, _ = Regroup([]api.Row{r, other}, 3, 1)
	apart(t, "Regroup to 1", l)
}
