package dict

import (
	"fmt"
	"math"
	"slices"
	"sort"
	"strings"
	"sync"
	"testing"
	"unsafe"

	"caisson/api"
)

func is(t *testing.T, what string, got, want any) {
	t.Helper()
	if g, w := fmt.Sprint(got), fmt.Sprint(want); g != w {
		t.Errorf("%s: %.300s, want %.300s", what, g, w)
	}
}

// a number and an error's
func put(n int, e api.Errno) string { return fmt.Sprintf("%d /%d", n, int(e)) }

// what Find, Text or Rank told
func told(v any, ok bool) string { return fmt.Sprintf("%v %v", v, ok) }

// several things, a comma between two
func row(l ...any) string {
	parts := []string{}
	for _, v := range l {
		parts = append(parts, fmt.Sprint(v))
	}
	return strings.Join(parts, ", ")
}

// a dictionary of these texts
func with(t *testing.T, texts ...string) *Dict {
	t.Helper()
	d := New()
	for _, text := range texts {
		_, e := d.Put(text)
		is(t, "Put", e, api.OK)
	}
	return d
}

// a dictionary that is full; its text of number i is t and i times 7, modulo 4096, in four digits
func full(t *testing.T) *Dict {
	t.Helper()
	d := New()
	for i := range 4096 {
		is(t, "Put", put(d.Put(fmt.Sprintf("t%04d", i*7%4096))), fmt.Sprintf("%d /0", i))
	}
	return d
}

func TestExamples(t *testing.T) {
	d := New()
	for i, text := range []string{"b", "a", "b", "ab"} {
		is(t, "Put "+text, put(d.Put(text)), []string{"0 /0", "1 /0", "0 /0", "2 /0"}[i])
	}
	is(t, "Sorted", d.Sorted(), "[1 2 0]")
	is(t, "Rank(0)", told(d.Rank(0)), "2 true")
	is(t, "Rank(3)", told(d.Rank(3)), "0 false")
	is(t, `Between("a", "b")`, d.Between("a", "b"), "[1 2]")
	is(t, `Between("b", "a")`, d.Between("b", "a"), "[]")
	is(t, "Text(2)", told(d.Text(2)), "ab true")
	is(t, "Text(-1)", told(d.Text(-1)), " false")
	is(t, "Find(c)", told(d.Find("c")), "0 false")
}

func TestP61New(t *testing.T) {
	d := New()
	is(t, "Len", d.Len(), 0)
	is(t, "Sorted", len(d.Sorted()), 0)
	is(t, "Between", len(d.Between("", "z")), 0)
	is(t, "Find", told(d.Find("")), "0 false")
	is(t, "Text", told(d.Text(0)), " false")
	is(t, "Rank", told(d.Rank(0)), "0 false")
	d.Put("a")
	is(t, "another one has nothing of it", New().Len(), 0)
}

func TestP61Long(t *testing.T) {
	d := New()
	most := strings.Repeat("x", 64)
	for _, text := range []string{most + "x", strings.Repeat("ä", 33), strings.Repeat("x", 1<<20)} {
		is(t, fmt.Sprint("bytes ", len(text)), put(d.Put(text)), "0 /45")
		is(t, "nothing of it", told(d.Find(text)), "0 false")
	}
	is(t, "nothing came", d.Len(), 0)
	is(t, "64 bytes", put(d.Put(most)), "0 /0")
	is(t, "64 bytes in fewer runes", put(d.Put(strings.Repeat("ä", 32))), "1 /0")
	is(t, "too long, though its front is there", put(d.Put(most+"x")), "0 /45")
	is(t, "none at all", put(d.Put("")), "2 /0")
	is(t, "Len", d.Len(), 3)
}

func TestP61AnyBytes(t *testing.T) {
	texts := []string{"", "\x00", "\x00\x00", "\xff", "\xfe\xff", "a\x00", "a", "A", "ä", "\xc3", " ", "a ", "\n"}
	d := with(t, texts...)
	for n, text := range texts {
		is(t, fmt.Sprintf("Put %q", text), put(d.Put(text)), fmt.Sprintf("%d /0", n))
		is(t, fmt.Sprintf("Find %q", text), told(d.Find(text)), fmt.Sprintf("%d true", n))
		is(t, fmt.Sprint("Text of ", n), told(d.Text(n)), text+" true")
	}
	is(t, "Len", d.Len(), len(texts))
}

func TestP61Full(t *testing.T) {
	d := full(t)
	is(t, "Len", d.Len(), 4096)
	is(t, "one more", put(d.Put("u")), "0 /12")
	is(t, "none at all", put(d.Put("")), "0 /12")
	is(t, "too long comes first", put(d.Put(strings.Repeat("u", 65))), "0 /45")
	is(t, "the first one is there", put(d.Put("t0000")), "0 /0")
	is(t, "the last one is there", put(d.Put(fmt.Sprintf("t%04d", 4095*7%4096))), "4095 /0")
	is(t, "nothing came", told(d.Find("u")), "0 false")
	is(t, "Len is as it was", d.Len(), 4096)
	is(t, "no such number", told(d.Text(4096)), " false")
	is(t, "a copy is full likewise", put(d.Copy().Put("u")), "0 /12")
	for rank, n := range d.Sorted() {
		if n*7%4096 != rank {
			t.Fatalf("place %d has number %d", rank, n)
		}
	}
}

func TestP61NoSuch(t *testing.T) {
	d := with(t, "b", "a")
	for _, n := range []int{-1, -2, 2, 3, 4096, math.MinInt, math.MaxInt, -1 << 32, 1 << 32} {
		is(t, fmt.Sprint("Text of ", n), told(d.Text(n)), " false")
		is(t, fmt.Sprint("Rank of ", n), told(d.Rank(n)), "0 false")
	}
	for _, text := range []string{"", "A", "aa", "a\x00", "ab", strings.Repeat("a", 65)} {
		is(t, fmt.Sprintf("Find %q", text), told(d.Find(text)), "0 false")
	}
	is(t, "asking puts nothing in", d.Len(), 2)
}

func TestP61OfAPiece(t *testing.T) {
	long := strings.Repeat("x", 1000) + "ab" + strings.Repeat("y", 1000)
	d := with(t, long[1000:1002])
	is(t, "Find", told(d.Find("ab")), "0 true")
	text, _ := d.Text(0)
	is(t, "Text", text, "ab")
	is(t, "the long text is not kept", unsafe.StringData(text) == unsafe.StringData(long[1000:]), false)
}

func TestP62Order(t *testing.T) {
	texts := []string{"b", "", "a\xff", "a", "ab", "\xff", "a\x00", "B", "ä", "\x7f", "aa", "\x80"}
	d := with(t, texts...)
	inOrder := slices.Clone(texts)
	sort.Strings(inOrder)
	sorted := []string{}
	for rank, n := range d.Sorted() {
		text, _ := d.Text(n)
		sorted = append(sorted, text)
		is(t, fmt.Sprint("Rank of ", n), told(d.Rank(n)), fmt.Sprintf("%d true", rank))
	}
	is(t, "byte by byte, a beginning is less", fmt.Sprintf("%q", sorted), fmt.Sprintf("%q", inOrder))
}

func TestP62OrderIsMadeAnew(t *testing.T) {
	d := New()
	for i, step := range []struct{ text, sorted string }{{"m", "[0]"}, {"a", "[1 0]"}, {"z", "[1 0 2]"}, {"b", "[1 3 0 2]"}, {"m", "[1 3 0 2]"}, {"", "[4 1 3 0 2]"}} {
		d.Put(step.text)
		what := fmt.Sprint("behind step ", i)
		is(t, what, d.Sorted(), step.sorted)
		is(t, what+", again", d.Sorted(), step.sorted)
	}
	d.Put("c")
	is(t, "Rank asked first", told(d.Rank(0)), "4 true")
	d.Put("d")
	is(t, "Between asked first", d.Between("c", "n"), "[5 6 0]")
}

func TestP62OrderOnce(t *testing.T) {
	d := with(t, "b", "a")
	d.Sorted()
	d.ranks = []int{7, 7}
	is(t, "not made again", told(d.Rank(0)), "7 true")
	d.Put("a")
	d.Find("c")
	is(t, "nor behind a text that is there", told(d.Rank(0)), "7 true")
	d.Put("c")
	is(t, "but behind a new one", told(d.Rank(0)), "1 true")
}

func TestP62OrderOfMany(t *testing.T) {
	d := full(t)
	var all sync.WaitGroup
	sorted := make([][]int, 16)
	for i := range sorted {
		all.Go(func() {
			d.Rank(i)
			sorted[i] = d.Sorted()
		})
	}
	all.Wait()
	for _, l := range sorted {
		is(t, "of one that several ask first", slices.Equal(l, d.Sorted()), true)
	}
}

func TestP62Between(t *testing.T) {
	d := with(t, "b", "a", "ab", "", "c", "b\x00")
	for _, c := range []struct{ low, high, want string }{
		{"", "", "[]"},
		{"", "\x00", "[3]"},
		{"", "a", "[3]"},
		{"", "z", "[3 1 2 0 5 4]"},
		{"", strings.Repeat("\xff", 1000), "[3 1 2 0 5 4]"},
		{"\x00", "z", "[1 2 0 5 4]"},
		{"a", "a", "[]"},
		{"a", "a\x00", "[1]"},
		{"a", "b", "[1 2]"},
		{"a", "b\x00", "[1 2 0]"},
		{"aa", "aaa", "[]"},
		{"aa", "ac", "[2]"},
		{"b", "a", "[]"},
		{"z", "", "[]"},
		{"b", "c", "[0 5]"},
		{"b\x00", "c\x00", "[5 4]"},
		{"c", "d", "[4]"},
		{"d", "e", "[]"},
	} {
		is(t, fmt.Sprintf("Between(%q, %q)", c.low, c.high), d.Between(c.low, c.high), c.want)
	}
}

func TestP62NewMemory(t *testing.T) {
	d := with(t, "b", "a", "ab")
	for _, l := range [][]int{d.Sorted(), d.Between("", "z"), d.Between("a", "b")} {
		for i := range l {
			l[i] = 77
		}
		_ = append(l[:0:cap(l)], slices.Repeat([]int{66}, cap(l))...)
	}
	is(t, "Sorted", d.Sorted(), "[1 2 0]")
	is(t, "Between", d.Between("", "z"), "[1 2 0]")
	l, m := d.Sorted(), d.Between("a", "z")
	d.Put("")
	d.Sorted()
	is(t, "Sorted stays as it was told", l, "[1 2 0]")
	is(t, "Between likewise", m, "[1 2 0]")
}

func TestP62Copy(t *testing.T) {
	d := with(t, "b", "a", "ab")
	d.Sorted()
	c := d.Copy()
	is(t, "the same", row(c.Len(), c.Sorted(), told(c.Text(2)), told(c.Find("a")), told(c.Rank(0))), "3, [1 2 0], ab true, 1 true, 2 true")
	is(t, "another", put(c.Put("0")), "3 /0")
	is(t, "nothing of it here", row(d.Len(), d.Sorted(), told(d.Find("0")), told(d.Text(3)), told(d.Rank(3))), "3, [1 2 0], 0 false,  false, 0 false")
	is(t, "apart the other way", put(d.Put("z")), "3 /0")
	is(t, "the copy's", row(c.Sorted(), told(c.Text(3)), told(c.Find("z"))), "[3 1 2 0], 0 true, 0 false")
	is(t, "here", row(d.Sorted(), told(d.Text(3)), told(d.Find("0"))), "[1 2 0 3], z true, 0 false")
	two, three := c.Copy(), c.Copy()
	two.Put("x")
	three.Put("y")
	is(t, "of a copy", row(told(two.Text(4)), told(three.Text(4))), "x true, y true")
	empty := New().Copy()
	is(t, "of one without texts", put(empty.Put("a")), "0 /0")
}

func TestP63Follows(t *testing.T) {
	d := New()
	texts := []string{}
	for i := range 300 {
		text := strings.Repeat(string(rune('a'+i%7)), i%11) + fmt.Sprint(i*i%97)
		n, _ := d.Put(text)
		if n == len(texts) {
			texts = append(texts, text)
		}
		if i%13 != 0 {
			continue
		}
		seen := make([]bool, d.Len())
		for m, other := range texts {
			is(t, "keeps its number", told(d.Find(other)), fmt.Sprint(m, true))
			is(t, "Text of Put", told(d.Text(m)), other+" true")
			rank, _ := d.Rank(m)
			is(t, "each rank once", seen[rank], false)
			seen[rank] = true
			last, _ := d.Rank(n)
			is(t, "the lesser one's is the lesser", rank < last, other < text)
		}
		is(t, "no other ranks", len(seen), len(texts))
	}
}

func TestNilAndZero(t *testing.T) {
	var none *Dict
	is(t, "Put", put(none.Put("a")), "0 /1")
	is(t, "Put of a long one", put(none.Put(strings.Repeat("a", 65))), "0 /1")
	is(t, "the rest", row(told(none.Find("")), told(none.Text(0)), none.Len(), len(none.Sorted()), told(none.Rank(0)), len(none.Between("", "z")), none.Copy() == nil), "0 false,  false, 0, 0, 0 false, 0, true")
	var zero Dict
	is(t, "of a zero one", row(told(zero.Find("")), told(zero.Text(0)), zero.Len(), len(zero.Sorted()), told(zero.Rank(0)), len(zero.Between("", "z")), zero.Copy().Len()), "0 false,  false, 0, 0, 0 false, 0, 0")
	is(t, "it is New()", row(put(zero.Put("b")), put(zero.Put("a")), zero.Sorted()), "0 /0, 1 /0, [1 0]")
}
