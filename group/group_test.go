package group

import (
	"fmt"
	"math"
	"slices"
	"strings"
	"testing"

	"caisson/api"
)

func is(t *testing.T, what string, got, want any) {
	t.Helper()
	if g, w := fmt.Sprint(got), fmt.Sprint(want); g != w {
		t.Errorf("%.300s: %.400s, want %.400s", what, g, w)
	}
}

// small are the document's facts.
func small() []api.Fact {
	return []api.Fact{fact("x p", 1), fact("y p", 2), fact("x q", 3)}
}

// fact is one of some texts, none of which has a blank within; a point is the empty one.
func fact(texts string, meas ...int64) api.Fact { return api.Fact{Dims: key(texts), Meas: meas} }

func key(texts string) []string {
	l := strings.Fields(texts)
	for i := range l {
		if l[i] == "." {
			l[i] = ""
		}
	}
	return l
}

// row is one of a key and an accumulator.
func row(texts string, count int, parts ...api.Part) api.Row {
	return api.Row{Key: key(texts), Acc: api.Acc{Count: count, Parts: parts}}
}

// part is one with a number: its sum (of one half), its least and its greatest.
func part(sum, low, high int64) api.Part {
	return api.Part{Any: true, Sum: api.Sum{Hi: sum >> 63, Lo: uint64(sum)}, Min: low, Max: high}
}

// wrong is a part without a number that holds something all the same.
var wrong = api.Part{Sum: api.Sum{Hi: 1, Lo: 5}, Min: -9, Max: 9}

// told is a list of rows as a text: of each its key, its Count, and its Parts.
func told(l []api.Row) string {
	s := ""
	for _, r := range l {
		s += fmt.Sprintf("%q %d", r.Key, r.Acc.Count)
		for _, p := range r.Acc.Parts {
			if p.Any && p.Sum.Hi == int64(p.Sum.Lo)>>63 {
				s += fmt.Sprintf(" %d/%d/%d", int64(p.Sum.Lo), p.Min, p.Max)
			} else {
				s += fmt.Sprint(" ", p)
			}
		}
		s += "; "
	}
	return strings.TrimSuffix(s, "; ")
}

// both is what Hash and Sort tell, if it is the same.
func both(facts []api.Fact, where *api.Test, set, meas int) string {
	hash, sort := told(Hash(facts, where, set, meas)), told(Sort(facts, where, set, meas))
	if hash != sort {
		return fmt.Sprintf("Hash: %s, Sort: %s", hash, sort)
	}
	return hash
}

// regrouped is what Regroup says: the rows, or the error's number; both, if rows stand beside an error.
func regrouped(l []api.Row, e api.Errno) string {
	if e != api.OK && l == nil {
		return fmt.Sprintf("error %d", int(e))
	}
	if e != api.OK {
		return fmt.Sprintf("error %d %s", int(e), told(l))
	}
	return told(l)
}

const badArg = "error 1"

func ofText(index, op int, text string) *api.Test {
	return &api.Test{Kind: api.CondCompare, Index: index, Op: op, Texts: []string{text}}
}

func ofInt(index, op int, n int64) *api.Test {
	return &api.Test{Kind: api.CondCompare, Meas: true, Index: index, Op: op, Ints: []int64{n}}
}

func not(l *api.Test) *api.Test { return &api.Test{Kind: api.CondNot, Left: l} }

func or(l, r *api.Test) *api.Test { return &api.Test{Kind: api.CondOr, Left: l, Right: r} }

// nots is a test that holds for each fact with a dimension 0, of so many nodes: an odd number of them.
func nots(nodes int) *api.Test {
	t := ofText(0, api.AtLeast, "")
	for range nodes - 1 {
		t = not(t)
	}
	return t
}

func TestExamples(t *testing.T) {
	is(t, "Hash by 1", told(Hash(small(), nil, 1, 1)), `["x"] 2 4/1/3; ["y"] 1 2/2/2`)
	is(t, "Sort by 0", told(Sort(small(), nil, 0, 1)), `[] 3 6/1/3`)
	is(t, "Regroup", regrouped(Regroup(Hash(small(), nil, 3, 1), 3, 2)), `["p"] 2 3/1/2; ["q"] 1 3/3/3`)
	is(t, "Hash by 4", told(Hash(small(), nil, 4, 1)), "")
	is(t, "Sort by 4", told(Sort(small(), nil, 4, 1)), "")
}

func TestP141Sets(t *testing.T) {
	for set, want := range map[int]string{
		0: `[] 3 6/1/3`,
		1: `["x"] 2 4/1/3; ["y"] 1 2/2/2`,
		2: `["p"] 2 3/1/2; ["q"] 1 3/3/3`,
		3: `["x" "p"] 1 1/1/1; ["x" "q"] 1 3/3/3; ["y" "p"] 1 2/2/2`,
		4: "", 5: "", 6: "", 7: "", 8: "", 32: "", 63: "",
		-1: `[] 3 6/1/3`, 64: `[] 3 6/1/3`, 65: `[] 3 6/1/3`, 127: `[] 3 6/1/3`,
		math.MinInt: `[] 3 6/1/3`, math.MinInt + 1: `[] 3 6/1/3`, math.MaxInt: `[] 3 6/1/3`,
	} {
		is(t, fmt.Sprint("by ", set), both(small(), nil, set, 1), want)
	}
	six := []api.Fact{fact("a b c d e f g"), fact("a b c d e f"), fact("A b c d e f")}
	for set, want := range map[int]string{
		63: `["A" "b" "c" "d" "e" "f"] 1; ["a" "b" "c" "d" "e" "f"] 2`,
		62: `["b" "c" "d" "e" "f"] 3`,
		33: `["A" "f"] 1; ["a" "f"] 2`,
		42: `["b" "d" "f"] 3`,
		21: `["A" "c" "e"] 1; ["a" "c" "e"] 2`,
	} {
		is(t, fmt.Sprint("of six, by ", set), both(six, nil, set, 0), want)
	}
}

// A fact that lacks one of the set's dimensions counts nowhere; whether it lacks another one doesn't matter.
func TestP141Lacking(t *testing.T) {
	l := []api.Fact{fact("x p r"), fact("x p"), fact("x"), fact(""), {}, fact("y p r s")}
	for set, want := range map[int]string{
		0:  `[] 6`,
		1:  `["x"] 3; ["y"] 1`,
		2:  `["p"] 3`,
		3:  `["x" "p"] 2; ["y" "p"] 1`,
		4:  `["r"] 2`,
		5:  `["x" "r"] 1; ["y" "r"] 1`,
		8:  `["s"] 1`,
		9:  `["y" "s"] 1`,
		16: "",
		17: "",
		64: `[] 6`,
	} {
		is(t, fmt.Sprint("by ", set), both(l, nil, set, 0), want)
	}
	is(t, "empty texts are there", both([]api.Fact{fact(". ."), fact("."), fact(". x")}, nil, 3, 0), `["" ""] 1; ["" "x"] 1`)
}

func TestP141None(t *testing.T) {
	for _, set := range []int{-1, 0, 1, 63, 64} {
		is(t, fmt.Sprint("no facts, by ", set), both(nil, nil, set, 1), "")
		is(t, fmt.Sprint("an empty list, by ", set), both([]api.Fact{}, nil, set, 1), "")
		is(t, fmt.Sprint("none holds, by ", set), both(small(), ofText(0, api.Equal, "z"), set, 1), "")
	}
}

func TestP141Where(t *testing.T) {
	ring := not(nil)
	ring.Left = ring
	for _, c := range []struct {
		what  string
		where *api.Test
		want  string
	}{
		{"a dimension of the set", ofText(1, api.Equal, "p"), `["p"] 2 3/1/2`},
		{"one that is not in it", ofText(0, api.Equal, "x"), `["p"] 1 1/1/1; ["q"] 1 3/3/3`},
		{"a measure", ofInt(0, api.Greater, 1), `["p"] 1 2/2/2; ["q"] 1 3/3/3`},
		{"not", not(ofText(0, api.Equal, "x")), `["p"] 1 2/2/2`},
		{"all", ofText(0, api.AtLeast, ""), `["p"] 2 3/1/2; ["q"] 1 3/3/3`},
		{"a dimension that is not there", ofText(2, api.AtLeast, ""), ""},
		{"a measure that is not there", ofInt(1, api.Unequal, 7), ""},
		{"not of that", not(ofInt(1, api.Unequal, 7)), `["p"] 2 3/1/2; ["q"] 1 3/3/3`},
		{"a zero one", &api.Test{}, ""},
		{"not of nil", not(nil), ""},
		{"many nodes", nots(4095), `["p"] 2 3/1/2; ["q"] 1 3/3/3`},
		{"too many nodes", nots(4097), ""},
		{"a ring", ring, ""},
	} {
		is(t, c.what, both(small(), c.where, 2, 1), c.want)
	}
}

func TestP141Measures(t *testing.T) {
	l := []api.Fact{fact("x", 1, -2, 3, 4, 5), fact("x", 10), fact("y"), fact("x", -4, 7)}
	for meas, want := range map[int]string{
		math.MinInt: `["x"] 3; ["y"] 1`,
		-1:          `["x"] 3; ["y"] 1`,
		0:           `["x"] 3; ["y"] 1`,
		1:           `["x"] 3 7/-4/10; ["y"] 1 {false {0 0} 0 0}`,
		2:           `["x"] 3 7/-4/10 5/-2/7; ["y"] 1 {false {0 0} 0 0} {false {0 0} 0 0}`,
		4:           `["x"] 3 7/-4/10 5/-2/7 3/3/3 4/4/4; ["y"] 1` + strings.Repeat(" {false {0 0} 0 0}", 4),
		5:           `["x"] 3 7/-4/10 5/-2/7 3/3/3 4/4/4; ["y"] 1` + strings.Repeat(" {false {0 0} 0 0}", 4),
		math.MaxInt: `["x"] 3 7/-4/10 5/-2/7 3/3/3 4/4/4; ["y"] 1` + strings.Repeat(" {false {0 0} 0 0}", 4),
	} {
		is(t, fmt.Sprint("of ", meas), both(l, nil, 1, meas), want)
	}
	great := []api.Fact{fact("x", math.MaxInt64), fact("x", math.MaxInt64), fact("y", math.MinInt64), fact("y", math.MinInt64)}
	is(t, "beyond an int64", both(great, nil, 1, 1), fmt.Sprintf(`["x"] 2 {true {0 18446744073709551614} %d %d}; ["y"] 2 {true {-1 0} %d %d}`, math.MaxInt64, math.MaxInt64, math.MinInt64, math.MinInt64))
	is(t, "and back again", both(append(great, fact("x", -math.MaxInt64)), nil, 1, 1)[:27], `["x"] 3 9223372036854775807`)
}

// order are keys as they rise.
var order = [][]string{
	nil, {""}, {"", ""}, {"", "\x00"}, {"", "z"}, {"\x00"}, {"\x00", "a"}, {" "}, {"1 "}, {"1 a"}, {"A"}, {"B"}, {"a"}, {"a", ""}, {"a", "", "b"}, {"a", "b"}, {"a", "b", "c"}, {"a", "bc"}, {"a", "c"},
	{"a\x00"}, {"a\x00", "a"}, {"aa"}, {"ab"}, {"ab", ""}, {"ab", "c"}, {"b"}, {"z"}, {"\x7f"}, {"\x80"}, {"é"}, {"\xff"}, {"\xff", "\xff"}, {"\xff\xff"}, {strings.Repeat("\xff", 100)},
}

func TestP142Compare(t *testing.T) {
	for i, a := range order {
		for j, b := range order {
			got := Compare(slices.Clone(a), slices.Clone(b))
			is(t, fmt.Sprintf("%q and %q", a, b), fmt.Sprint(got < 0, got == 0, got > 0), fmt.Sprint(i < j, i == j, i > j))
		}
	}
	is(t, "nil and empty", Compare(nil, []string{}), 0)
	long := slices.Repeat([]string{"a"}, 100000)
	is(t, "long ones", fmt.Sprint(Compare(long, long), Compare(long, long[1:]) > 0, Compare(long[1:], long) < 0), "0 true true")
}

// Texts stand in order and apart, whatever bytes they have.
func TestP141Order(t *testing.T) {
	for n := range 3 {
		l, want := []api.Fact{}, []string{}
		for _, k := range order {
			if len(k) == n {
				l = append(l, api.Fact{Dims: k})
				want = append(want, fmt.Sprintf("%q 2", append([]string{}, k...)))
			}
		}
		again := slices.Clone(l)
		slices.Reverse(again)
		set := 1<<n - 1
		is(t, fmt.Sprint("rising by ", set), both(slices.Concat(l, l), nil, set, 0), strings.Join(want, "; "))
		is(t, fmt.Sprint("falling by ", set), both(slices.Concat(again, again), nil, set, 0), strings.Join(want, "; "))
		is(t, fmt.Sprint("both by ", set), both(slices.Concat(l, again), nil, set, 0), strings.Join(want, "; "))
	}
}

// Keys that would be the same as one text, if it were written another way: without lengths, with a sign between, with lengths that have no end, or no tens.
func TestP141Apart(t *testing.T) {
	cases := [][][]string{
		{{"a", "bc"}, {"ab", "c"}, {"abc", ""}, {"", "abc"}},
		{{"1", "1"}, {"11", ""}, {"", "11"}, {"111", "1"}, {"11", "11"}, {"1", "111"}},
		{{"a1", "b"}, {"a", "1b"}, {"a:1", "b"}, {"a", ":1b"}, {"a,", "b"}, {"a", ",b"}, {"a|", "b"}, {"a", "|b"}},
		{{"a\x00", "b"}, {"a", "\x00b"}, {"a\x00b", ""}, {"", "a\x00b"}, {"a\x00\x00b", ""}, {"a", "\x00\x00b"}},
		{{`a"`, `"b`}, {`"a`, `b"`}, {`a\`, `b`}, {`a`, `\b`}, {"'", "''"}, {"''", "'"}},
		{{"a1 b", ""}, {"a", "b"}, {"a 1", "b"}, {"a", "1 b"}, {"a ", "b"}, {"a", " b"}, {"a 1 b", ""}, {"", "a1 b"}},
		{{"1", "aaaaaaaaa2bb"}, {"12aaaaaaaaa", "bb"}},
		{{"x", "aaaaaaaa1 b"}, {"x1 aaaaaaaa", "b"}},
		{{"x", "aaaaaaaa1:b"}, {"x1:aaaaaaaa", "b"}},
	}
	for sign := range 256 {
		s := string([]byte{byte(sign)})
		cases = append(cases, [][]string{{"a" + s, "b"}, {"a", s + "b"}, {"a", "b"}, {"a" + s + "b", ""}, {"", "a" + s + "b"}})
	}
	for _, l := range cases {
		facts := []api.Fact{}
		for _, k := range l {
			facts = append(facts, api.Fact{Dims: k})
		}
		rows := Hash(facts, nil, 3, 0)
		is(t, fmt.Sprintf("Hash of %q", l), len(rows), len(l))
		is(t, fmt.Sprintf("Sort of %q", l), len(Sort(facts, nil, 3, 0)), len(l))
		is(t, fmt.Sprintf("Merge of %q", l), len(Merge(rows, rows)), len(l))
		again, e := Regroup(rows, 3, 3)
		is(t, fmt.Sprintf("Regroup of %q", l), fmt.Sprint(len(again), int(e)), fmt.Sprint(len(l), 0))
	}
}

func TestP141Memory(t *testing.T) {
	for what, way := range map[string]func([]api.Fact, *api.Test, int, int) []api.Row{"Hash": Hash, "Sort": Sort} {
		facts := []api.Fact{fact("y p", 2), fact("x p", 1), fact("x q", 3), fact("y p", 5)}
		where := or(ofText(0, api.Equal, "x"), ofInt(0, api.Greater, 1))
		before, test := fmt.Sprint(facts), fmt.Sprint(where, where.Left, where.Right)
		first, second := way(facts, where, 3, 1), way(facts, where, 3, 1)
		want := told(first)
		spoil(second)
		is(t, what+": facts", facts, before)
		is(t, what+": test", fmt.Sprint(where, where.Left, where.Right), test)
		for i := range facts {
			facts[i].Dims[0], facts[i].Dims[1], facts[i].Meas[0] = "!", "!", 99
		}
		where.Left.Texts[0], where.Right.Ints[0] = "!", 99
		is(t, what+": what was told", told(first), want)
		apart(t, what, first)
	}
}

// spoil changes all that rows have, and what lies behind it.
func spoil(l []api.Row) {
	for i := range l {
		spoilOne(l[i])
		l[i] = api.Row{}
	}
	_ = append(l[:len(l):cap(l)], api.Row{})
}

func spoilOne(r api.Row) {
	for i := range r.Key {
		r.Key[i] = "spoilt"
	}
	for i := range r.Acc.Parts {
		r.Acc.Parts[i] = wrong
	}
	for i := len(r.Key); i < cap(r.Key); i++ {
		r.Key[:cap(r.Key)][i] = "spoilt"
	}
	for i := len(r.Acc.Parts); i < cap(r.Acc.Parts); i++ {
		r.Acc.Parts[:cap(r.Acc.Parts)][i] = wrong
	}
}

// apart spoils each row, and holds the others against what they were.
func apart(t *testing.T, what string, l []api.Row) {
	t.Helper()
	for i := range l {
		rest := told(l[i+1:])
		spoilOne(l[i])
		is(t, fmt.Sprint(what, ": behind row ", i), told(l[i+1:]), rest)
	}
}
