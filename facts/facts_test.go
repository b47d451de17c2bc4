package facts

import (
	"fmt"
	"math"
	"slices"
	"strings"
	"testing"

	"caisson/api"
)

func is(t *testing.T, what string, got, want any) {
	t.Helper()
	if g, w := fmt.Sprint(got), fmt.Sprint(want); g != w {
		t.Errorf("%s: %.300s, want %.300s", what, g, w)
	}
}

// a number and an error's
func num(n int, e api.Errno) string { return fmt.Sprintf("%d /%d", n, int(e)) }

// several things, a comma between two
func row(l ...any) string {
	parts := []string{}
	for _, v := range l {
		parts = append(parts, fmt.Sprint(v))
	}
	return strings.Join(parts, ", ")
}

// facts whose texts stand in quotes, so that no two of them look the same
func show(l []api.Fact) string {
	out := strings.Builder{}
	for _, f := range l {
		fmt.Fprintf(&out, "%q %d; ", f.Dims, f.Meas)
	}
	return out.String()
}

// a fact of one measure
func fact(n int64, dims ...string) api.Fact { return api.Fact{Dims: dims, Meas: []int64{n}} }

// so many facts of one dimension and one measure, whose texts and numbers go on from first
func run(first, many int) []api.Fact {
	l := []api.Fact{}
	for i := range many {
		l = append(l, fact(int64(first+i), fmt.Sprint("v", first+i)))
	}
	return l
}

func made(t *testing.T, dims, meas int) *Store {
	t.Helper()
	s, e := New(dims, meas)
	is(t, "New", int(e), 0)
	return s
}

// a store of one measure with these batches
func with(t *testing.T, dims int, batches ...[]api.Fact) *Store {
	t.Helper()
	s := made(t, dims, 1)
	for i, l := range batches {
		is(t, "Append", num(s.Append(l)), num(i+1, api.OK))
	}
	return s
}

// that of the examples
func small(t *testing.T) *Store {
	t.Helper()
	return with(t, 2, []api.Fact{fact(1, "x", "p"), fact(2, "y", "p")}, nil, []api.Fact{fact(3, "x", "q")})
}

// a store of one dimension that has as many values as may be
func full(t *testing.T) *Store {
	t.Helper()
	s := made(t, 1, 1)
	for first := 0; first < 4096; first += 64 {
		is(t, "Append", num(s.Append(run(first, 64))), num(first/64+1, api.OK))
	}
	return s
}

// all that is told of a store
func all(s *Store) string {
	parts := []any{s.Seq(), s.Len(), s.Segments(), show(s.Scan(0, s.Seq()))}
	for dim := range 7 {
		parts = append(parts, s.Values(dim))
	}
	for seq := range s.Seq() + 1 {
		parts = append(parts, s.Size(0, seq), s.Match(0, "x", seq), s.Match(1, "p", seq))
	}
	return row(parts...)
}

func TestExamples(t *testing.T) {
	s := made(t, 2, 1)
	_, e := New(0, 1)
	is(t, "New(0, 1)", int(e), 1)
	is(t, "the first", num(s.Append([]api.Fact{fact(1, "x", "p"), fact(2, "y", "p")})), "1 /0")
	is(t, "none", num(s.Append(nil)), "2 /0")
	is(t, "the third", num(s.Append([]api.Fact{fact(3, "x", "q")})), "3 /0")
	is(t, "of one text", num(s.Append([]api.Fact{fact(1, "x")})), "0 /26")
	is(t, "Scan(0, 1)", s.Scan(0, 1), "[{[x p] [1]} {[y p] [2]}]")
	is(t, "Scan(1, 3)", s.Scan(1, 3), "[{[x q] [3]}]")
	is(t, "Scan(-5, 99)", s.Scan(-5, 99), "[{[x p] [1]} {[y p] [2]} {[x q] [3]}]")
	is(t, "counts", row(s.Values(0), s.Values(1), s.Match(0, "x", 3), s.Match(0, "x", 1), s.Segments()), "2, 2, 2, 1, 1")
}

func TestP71New(t *testing.T) {
	for _, dims := range []int{math.MinInt, -1, 0, 1, 2, 3, 4, 5, 6, 7, math.MaxInt} {
		for _, meas := range []int{math.MinInt, -1, 0, 1, 2, 3, 4, 5, math.MaxInt} {
			s, e := New(dims, meas)
			may := 1 <= dims && dims <= 6 && 1 <= meas && meas <= 4
			what := row("New", dims, meas)
			is(t, what+" may be", e, map[bool]api.Errno{true: api.OK, false: api.ErrArg}[may])
			is(t, what+" is one", s != nil, may)
			is(t, what+" has nothing", all(s), row(0, 0, 0, "", 0, 0, 0, 0, 0, 0, 0, 0, 0, 0))
			if may {
				f := api.Fact{Dims: make([]string, dims), Meas: make([]int64, meas)}
				is(t, what+" takes its facts", num(s.Append([]api.Fact{f})), "1 /0")
				is(t, what+" has them", show(s.Scan(0, 1)), show([]api.Fact{f}))
				is(t, what+" has its dimensions", row(s.Values(dims-1), s.Values(dims)), "1, 0")
			}
		}
	}
}

func TestP71Apart(t *testing.T) {
	s, other := made(t, 1, 1), made(t, 1, 1)
	s.Append(run(0, 3))
	is(t, "another one has nothing of it", row(other.Seq(), other.Len(), other.Values(0)), "0, 0, 0")
}

func TestP72Many(t *testing.T) {
	s := made(t, 1, 1)
	is(t, "65 facts", s.Check(run(0, 65)), api.ErrMany)
	is(t, "65 facts appended", num(s.Append(run(0, 65))), "0 /46")
	is(t, "that may not be besides", s.Check(make([]api.Fact, 65)), api.ErrMany)
	is(t, "very many", s.Check(make([]api.Fact, 1<<20)), api.ErrMany)
	is(t, "nothing came", row(s.Seq(), s.Len(), s.Values(0)), "0, 0, 0")
	is(t, "64 facts", s.Check(run(0, 64)), api.OK)
	is(t, "Check puts nothing in", row(s.Seq(), s.Len(), s.Values(0)), "0, 0, 0")
	is(t, "64 facts appended", num(s.Append(run(0, 64))), "1 /0")
	is(t, "they came", row(s.Seq(), s.Len(), s.Values(0)), "1, 64, 64")
}

func TestP72Fact(t *testing.T) {
	s := made(t, 2, 2)
	most, numbers := strings.Repeat("x", 64), []int64{math.MinInt64, math.MaxInt64}
	good := api.Fact{Dims: []string{most, ""}, Meas: numbers}
	for what, f := range map[string]api.Fact{
		"nothing":                  {},
		"no texts":                 {Meas: numbers},
		"a text too few":           {Dims: []string{"x"}, Meas: numbers},
		"a text too many":          {Dims: []string{"x", "y", ""}, Meas: numbers},
		"no numbers":               {Dims: []string{"x", "y"}},
		"a number too few":         {Dims: []string{"x", "y"}, Meas: numbers[:1]},
		"a number too many":        {Dims: []string{"x", "y"}, Meas: []int64{0, 0, 0}},
		"a first text of 65 bytes": {Dims: []string{most + "x", "y"}, Meas: numbers},
		"a last text of 65 bytes":  {Dims: []string{"x", most + "x"}, Meas: numbers},
		"65 bytes in fewer runes":  {Dims: []string{"x", strings.Repeat("ä", 32) + "a"}, Meas: numbers},
		"a long text":              {Dims: []string{"x", strings.Repeat("y", 1<<20)}, Meas: numbers},
		"its sides changed":        {Dims: []string{"x"}, Meas: []int64{1, 2, 3}},
	} {
		for place := range 3 {
			l := slices.Insert([]api.Fact{good, good}, place, f)
			is(t, what, s.Check(l), api.ErrFact)
			is(t, what+", appended", num(s.Append(l)), "0 /26")
		}
	}
	is(t, "nothing came", row(s.Seq(), s.Len(), s.Values(0), s.Values(1)), "0, 0, 0, 0")
	is(t, "64 bytes, none", num(s.Append([]api.Fact{good})), "1 /0")
	is(t, "they came", show(s.Scan(0, 1)), show([]api.Fact{good}))
}

func TestP72Full(t *testing.T) {
	s := full(t)
	is(t, "values", s.Values(0), 4096)
	was := all(s)
	is(t, "a new one", s.Check(run(4096, 1)), api.ErrFull)
	is(t, "a new one, appended", num(s.Append(run(4096, 1))), "0 /12")
	is(t, "behind one that is there", num(s.Append(run(4095, 2))), "0 /12")
	is(t, "none at all", num(s.Append([]api.Fact{fact(1, "")})), "0 /12")
	is(t, "one that may not be comes first", num(s.Append([]api.Fact{fact(1, "new"), fact(1)})), "0 /26")
	is(t, "too many come first", num(s.Append(run(4090, 65))), "0 /46")
	is(t, "all is as it was", all(s), was)
	is(t, "those that are there", num(s.Append(run(4032, 64))), "65 /0")
	is(t, "none", num(s.Append(nil)), "66 /0")
	is(t, "behind them", row(s.Seq(), s.Len(), s.Values(0), s.Match(0, "v4095", 66), s.Segments()), "66, 4160, 4096, 2, 17")
	is(t, "the last of them", s.Scan(64, 65)[63], "{[v4095] [4095]}")
}

func TestP72NearlyFull(t *testing.T) {
	s := made(t, 2, 1)
	for first := 0; first < 4094; first += 46 {
		l := run(first, 46)
		for i := range l {
			l[i].Dims = []string{"one", l[i].Dims[0]}
		}
		s.Append(l)
	}
	is(t, "values", row(s.Values(0), s.Values(1)), "1, 4094")
	two := []api.Fact{fact(1, "a", "new"), fact(2, "b", "new"), fact(3, "c", "newer"), fact(4, "d", "v0"), fact(5, "e", "newer")}
	three := append(slices.Clone(two), fact(6, "a", "newest"))
	was := all(s)
	is(t, "three that are new", s.Check(three), api.ErrFull)
	is(t, "three, appended", num(s.Append(three)), "0 /12")
	is(t, "nothing changed", all(s), was)
	is(t, "nothing of the other dimension", s.Match(0, "a", 99), 0)
	is(t, "two that are new, each twice", s.Check(two), api.OK)
	is(t, "two, appended", num(s.Append(two)), "90 /0")
	is(t, "then it's full", row(s.Values(0), s.Values(1), s.Match(1, "newer", 90)), "6, 4096, 2")
	is(t, "the other dimension isn't", num(s.Append([]api.Fact{fact(1, "f", "new")})), "91 /0")
	is(t, "but this one is", num(s.Append([]api.Fact{fact(1, "g", "newest")})), "0 /12")
}

func TestP72CheckIsAppend(t *testing.T) {
	s := full(t)
	for _, l := range [][]api.Fact{nil, {}, run(0, 64), run(0, 65), run(4095, 2), {{}}, {fact(1, "v0", "v1")}, {fact(1, strings.Repeat("v", 65))}} {
		e, was := s.Check(l), all(s)
		is(t, "Check changes nothing", all(s), was)
		n, got := s.Append(l)
		is(t, "what Check says", got, e)
		if e == api.OK {
			is(t, "its number", n, s.Seq())
		} else {
			is(t, "no number", n, 0)
			is(t, "nothing changed", all(s), was)
		}
	}
}

func TestP73Bounds(t *testing.T) {
	s := small(t)
	for _, c := range []struct {
		from, to int
		want     string
	}{
		{0, 0, "[]"}, {0, 2, "[{[x p] [1]} {[y p] [2]}]"}, {1, 2, "[]"}, {2, 3, "[{[x q] [3]}]"}, {3, 3, "[]"}, {3, 1, "[]"}, {1, 0, "[]"},
		{-1, 1, "[{[x p] [1]} {[y p] [2]}]"}, {math.MinInt, 0, "[]"}, {math.MinInt, math.MinInt, "[]"}, {0, -1, "[]"}, {-2, -1, "[]"},
		{2, 4, "[{[x q] [3]}]"}, {2, math.MaxInt, "[{[x q] [3]}]"}, {3, 99, "[]"}, {4, 99, "[]"}, {99, 4, "[]"}, {math.MaxInt, math.MaxInt, "[]"}, {math.MaxInt, math.MinInt, "[]"},
		{math.MinInt, math.MaxInt, "[{[x p] [1]} {[y p] [2]} {[x q] [3]}]"},
	} {
		what := row("from and to", c.from, c.to)
		is(t, what+" scanned", s.Scan(c.from, c.to), c.want)
		is(t, what+" counted", s.Size(c.from, c.to), strings.Count(c.want, "{"))
	}
}

func TestP73Match(t *testing.T) {
	s := small(t)
	for _, c := range []struct {
		dim      int
		text     string
		to, want int
	}{
		{0, "x", 0, 0}, {0, "x", 1, 1}, {0, "x", 2, 1}, {0, "x", 3, 2}, {0, "x", 4, 2}, {0, "x", math.MaxInt, 2}, {0, "x", -1, 0}, {0, "x", math.MinInt, 0},
		{1, "p", 3, 2}, {1, "p", 1, 2}, {1, "q", 2, 0}, {1, "q", 3, 1}, {0, "y", 3, 1},
		{0, "p", 3, 0}, {1, "x", 3, 0}, {0, "", 3, 0}, {0, "X", 3, 0}, {0, "xx", 3, 0}, {0, "x\x00", 3, 0}, {0, strings.Repeat("x", 1<<20), 3, 0},
		{2, "x", 3, 0}, {5, "x", 3, 0}, {6, "x", 3, 0}, {-1, "x", 3, 0}, {math.MinInt, "x", 3, 0}, {math.MaxInt, "x", 3, 0},
	} {
		is(t, fmt.Sprintf("Match(%d, %.9q, %d)", c.dim, c.text, c.to), s.Match(c.dim, c.text, c.to), c.want)
	}
	is(t, "asking puts nothing in", all(s), all(small(t)))
}

func TestP73Values(t *testing.T) {
	s := small(t)
	for _, dim := range []int{-1, 2, 3, 5, 6, 7, math.MinInt, math.MaxInt} {
		is(t, fmt.Sprint("Values of ", dim), s.Values(dim), 0)
	}
	is(t, "Values", row(s.Values(0), s.Values(1)), "2, 2")
	s.Append([]api.Fact{fact(4, "x", "r"), fact(5, "", "\xff"), fact(6, "\x00", "r")})
	is(t, "more of them", row(s.Values(0), s.Values(1)), "4, 4")
	is(t, "Match of none at all", row(s.Match(0, "", 4), s.Match(0, "\x00", 4), s.Match(1, "r", 4)), "1, 1, 2")
}

func TestP73Segments(t *testing.T) {
	s := made(t, 1, 1)
	want := []api.Fact{}
	for _, c := range []struct{ many, segments int }{{0, 0}, {1, 1}, {63, 1}, {64, 1}, {64, 1}, {63, 1}, {0, 1}, {1, 1}, {0, 1}, {1, 2}, {64, 2}, {64, 2}, {64, 2}, {63, 2}, {1, 3}} {
		l := run(len(want), c.many)
		s.Append(l)
		want = append(want, l...)
		is(t, fmt.Sprint("Segments of ", len(want)), row(s.Len(), s.Segments()), row(len(want), c.segments))
	}
	for seq := range s.Seq() + 1 {
		at := s.Size(0, seq)
		is(t, fmt.Sprint("up to ", seq), s.Scan(0, seq), want[:at])
		is(t, fmt.Sprint("behind ", seq), s.Scan(seq, s.Seq()), want[at:])
	}
}

func TestP73AllColumns(t *testing.T) {
	s := made(t, 6, 4)
	want := []api.Fact{}
	for i := range 400 {
		f := api.Fact{}
		for dim := range 6 {
			f.Dims = append(f.Dims, fmt.Sprint(dim, i%(3+dim)))
		}
		for m := range 4 {
			f.Meas = append(f.Meas, int64(i*i-1000*m)<<(20*m))
		}
		want = append(want, f)
		s.Append([]api.Fact{f})
	}
	is(t, "Scan", s.Scan(0, 400), want)
	is(t, "a piece over two segments", s.Scan(250, 260), want[250:260])
	for dim := range 6 {
		is(t, "Values", s.Values(dim), 3+dim)
		is(t, "Match", s.Match(dim, fmt.Sprint(dim, 1), 300), (300-1+2+dim)/(3+dim))
	}
}

func TestP73NewMemory(t *testing.T) {
	s := small(t)
	l, again := s.Scan(0, 3), s.Scan(0, 3)
	for i := range l {
		l[i].Dims[0], l[i].Dims[1], l[i].Meas[0] = "z", "z", 77
		_, _ = append(l[i].Dims, "w", "w"), append(l[i].Meas, 66, 66)
	}
	is(t, "each fact has its own", l, "[{[z z] [77]} {[z z] [77]} {[z z] [77]}]")
	_ = append(l[:0], api.Fact{}, api.Fact{})
	is(t, "what was told besides stays", again, "[{[x p] [1]} {[y p] [2]} {[x q] [3]}]")
	is(t, "the store stays", all(s), all(small(t)))
}

func TestP73OfTheOwner(t *testing.T) {
	s := made(t, 2, 1)
	l := []api.Fact{fact(1, "x", "p"), fact(2, "y", "p")}
	s.Check(l)
	s.Append(l)
	is(t, "what was handed in stays", l, "[{[x p] [1]} {[y p] [2]}]")
	l[0].Dims[0], l[0].Dims[1], l[1].Meas[0], l[1] = "z", "z", 77, api.Fact{}
	is(t, "its owner may change it", s.Scan(0, 1), "[{[x p] [1]} {[y p] [2]}]")
	is(t, "and nothing else changes", row(s.Match(0, "x", 1), s.Match(0, "z", 1), s.Values(1)), "1, 0, 1")
}

func TestP74Snapshot(t *testing.T) {
	s := made(t, 2, 1)
	told, scanned, kept := []string{}, []string{}, [][]api.Fact{}
	snapshot := func(seq int) string {
		return row(s.Scan(0, seq), s.Size(0, seq), s.Match(0, "v1", seq), s.Match(1, "w1", seq))
	}
	for seq := range 40 {
		told, kept = append(told, snapshot(seq)), append(kept, s.Scan(0, seq))
		scanned = append(scanned, fmt.Sprint(kept[seq]))
		l := run(seq%5, seq*7%65)
		for i := range l {
			l[i].Dims = append(l[i].Dims, fmt.Sprint("w", i%(seq+1)))
		}
		s.Append(l)
		s.Append(append(l, fact(1)))
		for old := range seq + 1 {
			is(t, fmt.Sprint("up to ", old, " behind ", seq), snapshot(old), told[old])
			is(t, fmt.Sprint("what was told up to ", old), kept[old], scanned[old])
		}
	}
}

func TestP74Parts(t *testing.T) {
	s := made(t, 1, 1)
	for i := range 12 {
		s.Append(run(i*i, i*29%65))
	}
	for a := -1; a <= 13; a++ {
		for b := a; b <= 13; b++ {
			for c := b; c <= 13; c++ {
				is(t, row("parts", a, b, c), append(s.Scan(a, b), s.Scan(b, c)...), s.Scan(a, c))
				is(t, row("sizes", a, b, c), s.Size(a, b)+s.Size(b, c), s.Size(a, c))
			}
		}
	}
}

func TestNilAndZero(t *testing.T) {
	var none *Store
	var zero Store
	for what, s := range map[string]*Store{"nil": none, "zero": &zero} {
		for _, l := range [][]api.Fact{nil, {fact(1, "x")}, {{}}, make([]api.Fact, 65)} {
			is(t, what+": Check", s.Check(l), api.ErrArg)
			is(t, what+": Append", num(s.Append(l)), "0 /1")
		}
		is(t, what+": the rest", row(s.Seq(), s.Len(), len(s.Scan(-1, 9)), s.Size(-1, 9), s.Values(0), s.Match(0, "", 9), s.Match(-1, "x", 0), s.Segments()), "0, 0, 0, 0, 0, 0, 0, 0")
	}
}
