package dict

import (
	"fmt"
	"sort"
	"strings"
	"testing"

	"caisson/api"
)

// model says the same by other means: a list of the texts as they came, which is gone through each time.
type model []string

func (m *model) put(text string) (int, api.Errno) {
	if len(text) > 64 {
		return 0, api.ErrLong
	}
	if n, ok := m.find(text); ok {
		return n, api.OK
	}
	*m = append(*m, text)
	return len(*m) - 1, api.OK
}

func (m model) find(text string) (int, bool) {
	for n, other := range m {
		if other == text {
			return n, true
		}
	}
	return 0, false
}

func (m model) text(n int) (string, bool) {
	if n < 0 || n >= len(m) {
		return "", false
	}
	return m[n], true
}

// rank is how many texts are less
func (m model) rank(n int) (int, bool) {
	text, ok := m.text(n)
	rank := 0
	for _, other := range m {
		if ok && other < text {
			rank++
		}
	}
	return rank, ok
}

func (m model) between(low, high string) []int {
	texts := []string{}
	for _, text := range m {
		if text >= low && text < high {
			texts = append(texts, text)
		}
	}
	sort.Strings(texts)
	numbers := []int{}
	for _, text := range texts {
		n, _ := m.find(text)
		numbers = append(numbers, n)
	}
	return numbers
}

// pair is a dictionary and its model
type pair struct {
	d *Dict
	m model
}

var texts = []string{"", "a", "ab", "b", "\x00", "\xff", "a\xff", "B", strings.Repeat("b", 64), strings.Repeat("b", 65)}

// step does one call to a pair, and tells both answers; kinds are 0 to 6
func (p *pair) step(kind, i, j int) (string, string) {
	text, other := texts[i%len(texts)], texts[j%len(texts)]
	switch kind {
	case 0, 1:
		return put(p.d.Put(text)), put(p.m.put(text))
	case 2:
		return told(p.d.Find(text)), told(p.m.find(text))
	case 3:
		return told(p.d.Text(i - 1)), told(p.m.text(i - 1))
	case 4:
		return told(p.d.Rank(i - 1)), told(p.m.rank(i - 1))
	case 5:
		return fmt.Sprint(p.d.Between(text, other)), fmt.Sprint(p.m.between(text, other))
	}
	return fmt.Sprint(p.d.Sorted(), p.d.Len()), fmt.Sprint(p.m.between("", "\xff\xff"), len(p.m))
}

// a story of calls, on a dictionary and on copies that are made of it on the way
func story(t *testing.T, seed uint32, calls int) {
	t.Helper()
	draw := func(below int) int {
		seed = seed*1664525 + 1013904223
		return int(seed>>16) % below
	}
	pairs := []*pair{{New(), nil}}
	tale := ""
	for range calls {
		p := pairs[draw(len(pairs))]
		if draw(12) == 0 {
			pairs = append(pairs, &pair{p.d.Copy(), append(model(nil), p.m...)})
			tale += " copy"
			continue
		}
		kind, i, j := draw(7), draw(12), draw(12)
		got, want := p.step(kind, i, j)
		tale += fmt.Sprint(" ", kind, "(", i, ",", j, ")")
		if got != want {
			t.Fatalf("behind%s: %q, want %q", tale, got, want)
		}
	}
}

func TestModelStories(t *testing.T) {
	for seed := range uint32(4000) {
		story(t, seed, 40)
	}
}

// all orders in which five texts may come, the order of texts asked behind each or at the end alone
func TestModelOrders(t *testing.T) {
	for way := range 5 * 5 * 5 * 5 * 5 * 2 {
		p := &pair{New(), nil}
		for rest, k := way/2, 0; k < 5; rest, k = rest/5, k+1 {
			got, want := p.step(0, rest%5, 0)
			if way%2 == 0 {
				one, two := p.step(6, 0, 0)
				got, want = got+one, want+two
			}
			is(t, fmt.Sprint("way ", way, " step ", k), got, want)
		}
		got, want := p.step(6, 0, 0)
		is(t, fmt.Sprint("way ", way, " at the end"), got, want)
	}
}
