package facts

import (
	"fmt"
	"slices"
	"testing"

	"caisson/api"
)

// model has the batches as they came, and works all out anew.
type model struct {
	dims, meas int
	batches    [][]api.Fact
}

func (m *model) scan(from, to int) []api.Fact {
	l := []api.Fact{}
	for i, batch := range m.batches {
		if from <= i && i < to {
			l = append(l, batch...)
		}
	}
	return l
}

func (m *model) match(dim int, text string, to int) int {
	many := 0
	for _, f := range m.scan(0, to) {
		if 0 <= dim && dim < m.dims && f.Dims[dim] == text {
			many++
		}
	}
	return many
}

func (m *model) values(dim int) int {
	seen := map[string]bool{}
	for _, f := range m.scan(0, len(m.batches)) {
		if 0 <= dim && dim < m.dims {
			seen[f.Dims[dim]] = true
		}
	}
	return len(seen)
}

// check leaves out how many values there may be: the stories have too few.
func (m *model) check(l []api.Fact) api.Errno {
	if len(l) > 64 {
		return api.ErrMany
	}
	for _, f := range l {
		long := slices.ContainsFunc(f.Dims, func(text string) bool { return len(text) > 64 })
		if long || len(f.Dims) != m.dims || len(f.Meas) != m.meas {
			return api.ErrFact
		}
	}
	return api.OK
}

func (m *model) add(l []api.Fact) (int, api.Errno) {
	if e := m.check(l); e != api.OK {
		return 0, e
	}
	m.batches = append(m.batches, slices.Clone(l))
	return len(m.batches), api.OK
}

// a draw of numbers below many, the same for each seed
func draws(seed uint32) func(many int) int {
	return func(many int) int {
		seed = seed*1664525 + 1013904223
		return int(seed>>8) % many
	}
}

func drawFact(draw func(int) int, dims, meas int) api.Fact {
	f := api.Fact{}
	if draw(200) == 0 {
		dims += draw(3) - 1
	}
	if draw(200) == 0 {
		meas += draw(3) - 1
	}
	for range dims {
		text := fmt.Sprintf("%*d", 1+draw(2), draw(9))
		if draw(300) == 0 {
			text = fmt.Sprintf("%*d", 64+draw(2), 0)
		}
		f.Dims = append(f.Dims, text)
	}
	for range meas {
		f.Meas = append(f.Meas, int64(draw(1000)-500))
	}
	return f
}

func drawBatch(draw func(int) int, dims, meas int) []api.Fact {
	many := []int{0, 1, 2, 5, 30, 63, 64, 64 + draw(2)}[draw(8)]
	l := []api.Fact{}
	for range many {
		l = append(l, drawFact(draw, dims, meas))
	}
	return l
}

// what is told of the store and of the model at drawn places
func ask(s *Store, m *model, draw func(int) int) (string, string) {
	seq := len(m.batches)
	from, to, dim := draw(seq+4)-2, draw(seq+4)-2, draw(9)-1
	text := fmt.Sprintf("%*d", 1+draw(2), draw(9))
	scanned, facts := m.scan(from, to), len(m.scan(0, seq))
	got := row(show(s.Scan(from, to)), s.Size(from, to), s.Match(dim, text, to), s.Values(dim), s.Seq(), s.Len(), s.Segments())
	want := row(show(scanned), len(scanned), m.match(dim, text, to), m.values(dim), seq, facts, (facts+255)/256)
	return got, want
}

func TestModelStories(t *testing.T) {
	for seed := range uint32(240) {
		draw := draws(seed)
		m := &model{dims: 1 + int(seed)%6, meas: 1 + int(seed)/6%4}
		s := made(t, m.dims, m.meas)
		for step := range 24 {
			l := drawBatch(draw, m.dims, m.meas)
			what := row("seed and step", seed, step)
			is(t, what+": Check", s.Check(l), m.check(l))
			is(t, what+": Append", num(s.Append(l)), num(m.add(l)))
			if got, want := ask(s, m, draw); got != want {
				t.Fatalf("%s: %.500s, want %.500s", what, got, want)
			}
		}
	}
}
