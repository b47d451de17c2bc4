package codec

import (
	"fmt"
	"math"
	"strings"
	"testing"

	"caisson/api"
)

// each call of a reader that takes one thing up, what it tells as a text, and the zero one's
var takes = []struct {
	what, zero string
	take       func(r *Reader) string
}{
	{"Byte", "0", func(r *Reader) string { return fmt.Sprintf("%+v", r.Byte()) }},
	{"Int", "0", func(r *Reader) string { return fmt.Sprintf("%+v", r.Int()) }},
	{"Count", "0", func(r *Reader) string { return fmt.Sprintf("%+v", r.Count(math.MaxInt)) }},
	{"Text", `""`, func(r *Reader) string { return fmt.Sprintf("%q", r.Text()) }},
	{"Texts", `[]`, func(r *Reader) string { return fmt.Sprintf("%q", r.Texts()) }},
	{"Cell", `{0 0 ""}`, func(r *Reader) string { c := r.Cell(); return fmt.Sprintf("{%d %d %q}", c.Kind, c.Int, c.Text) }},
	{"Cells", "[]", func(r *Reader) string { return fmt.Sprintf("%+v", r.Cells()) }},
	{"Fact", "{Dims:[] Meas:[]}", func(r *Reader) string { return fmt.Sprintf("%+v", r.Fact()) }},
	{"Facts", "[]", func(r *Reader) string { return fmt.Sprintf("%+v", r.Facts()) }},
	{"Schema", "{Dims:[] Meas:[]}", func(r *Reader) string { return fmt.Sprintf("%+v", r.Schema()) }},
}

// what the call of that name tells of a new reader of a text, how many bytes are left, and the reader's first error
func taken(what, s string) string {
	r := Read(s)
	for _, c := range takes {
		if c.what == what {
			return fmt.Sprint(c.take(r), " ", r.Left(), " /", int(r.Done()))
		}
	}
	return "no call " + what
}

// the zero one of a call
func zero(what string) string {
	for _, c := range takes {
		if c.what == what {
			return c.zero
		}
	}
	return "no call " + what
}

// four bytes
func count(n int) string { return string([]byte{byte(n), byte(n >> 8), byte(n >> 16), byte(n >> 24)}) }

func TestP44Taken(t *testing.T) {
	for _, c := range []struct{ what, bytes, want string }{
		{"Byte", "\x07", "7"},
		{"Byte", "\xff", "255"},
		{"Int", "\xfe\xff\xff\xff\xff\xff\xff\xff", "-2"},
		{"Int", "\x88\x77\x66\x55\x44\x33\x22\x11", "1234605616436508552"},
		{"Int", "\x00\x00\x00\x00\x00\x00\x00\x80", "-9223372036854775808"},
		{"Int", "\xff\xff\xff\xff\xff\xff\xff\x7f", "9223372036854775807"},
		{"Count", "\x44\x33\x22\x11", "287454020"},
		{"Count", "\xff\xff\xff\xff", "4294967295"},
		{"Text", count(0), `""`},
		{"Text", count(2) + "\x00\xff", `"\x00\xff"`},
		{"Texts", count(0), `[]`},
		{"Texts", count(3) + count(1) + "a" + count(0) + count(2) + "bc", `["a" "" "bc"]`},
		{"Cell", "\x00", `{0 0 ""}`},
		{"Cell", "\x01A\x00\x00\x00\x00\x00\x00\x00", `{1 65 ""}`},
		{"Cell", "\x02" + count(1) + "t", `{2 0 "t"}`},
		{"Cells", count(0), "[]"},
		{"Cells", count(3) + "\x00\x01\x09\x00\x00\x00\x00\x00\x00\x00\x02" + count(1) + "t", "[{Kind:0 Int:0 Text:} {Kind:1 Int:9 Text:} {Kind:2 Int:0 Text:t}]"},
		{"Fact", count(0) + count(0), "{Dims:[] Meas:[]}"},
		{"Fact", count(2) + count(1) + "x" + count(0) + count(1) + "\x05\x00\x00\x00\x00\x00\x00\x00", "{Dims:[x ] Meas:[5]}"},
		{"Facts", count(0), "[]"},
		{"Facts", count(2) + count(0) + count(0) + count(1) + count(1) + "x" + count(0), "[{Dims:[] Meas:[]} {Dims:[x] Meas:[]}]"},
		{"Schema", count(0) + count(0), "{Dims:[] Meas:[]}"},
		{"Schema", count(2) + count(1) + "a" + count(1) + "b" + count(1) + count(1) + "m", "{Dims:[a b] Meas:[m]}"},
	} {
		is(t, c.what, taken(c.what, c.bytes), c.want+" 0 /0")
		is(t, c.what+" and bytes behind it", taken(c.what, c.bytes+"\x00\x00\x00"), c.want+" 3 /22")
		for many := range len(c.bytes) {
			is(t, fmt.Sprint(c.what, " cut to ", many), taken(c.what, c.bytes[:many]), zero(c.what)+" 0 /20")
		}
	}
}

func TestP44Counts(t *testing.T) {
	a := "\x09\x00\x00\x00\x00\x00\x00\x00" // an int, or two texts of which the first is too long
	for _, c := range []struct{ what, bytes, want string }{
		{"Text", count(3) + "abc", `"abc" 0 /0`},
		{"Text", count(4) + "abc", `"" 0 /20`},
		{"Text", "\xff\xff\xff\xffabc", `"" 0 /20`},
		{"Texts", count(2) + count(0) + count(0), `["" ""] 0 /0`},
		{"Texts", count(2) + count(0) + "abc", `[] 0 /20`},
		{"Texts", count(3) + count(0) + count(0), `[] 0 /20`},
		{"Texts", "\xff\xff\xff\xff" + count(0), `[] 0 /20`},
		{"Texts", count(2) + a + "123456789", `[] 0 /20`},
		{"Cells", count(3) + "\x00\x00\x00", "[{Kind:0 Int:0 Text:} {Kind:0 Int:0 Text:} {Kind:0 Int:0 Text:}] 0 /0"},
		{"Cells", count(4) + "\x00\x00\x00", "[] 0 /20"},
		{"Cells", "\xff\xff\xff\xff\x00\x00\x00", "[] 0 /20"},
		{"Facts", count(2) + count(0) + count(0) + count(0) + count(0), "[{Dims:[] Meas:[]} {Dims:[] Meas:[]}] 0 /0"},
		{"Facts", count(2) + count(0) + count(0) + count(0) + "abc", "[] 0 /20"},
		{"Facts", count(3) + count(0) + count(0) + count(0) + count(0), "[] 0 /20"},
		{"Facts", "\xff\xff\xff\xff" + count(0) + count(0), "[] 0 /20"},
		{"Fact", count(0) + count(2) + a + a, "{Dims:[] Meas:[9 9]} 0 /0"},
		{"Fact", count(0) + count(2) + a + "1234567", "{Dims:[] Meas:[]} 0 /20"},
		{"Fact", count(0) + count(3) + a + a, "{Dims:[] Meas:[]} 0 /20"},
		{"Fact", count(1) + count(1) + "x" + count(2) + a, "{Dims:[] Meas:[]} 0 /20"},
		{"Fact", count(1) + count(1) + "x" + "\xff\xff\xff\xff", "{Dims:[] Meas:[]} 0 /20"},
		{"Schema", count(1) + count(1) + "x" + count(1), "{Dims:[] Meas:[]} 0 /20"},
		{"Schema", count(3) + count(0) + count(0), "{Dims:[] Meas:[]} 0 /20"},
	} {
		is(t, fmt.Sprintf("%s of %q", c.what, c.bytes), taken(c.what, c.bytes), c.want)
	}
}

// A count that is too great is told ahead of what is wrong with the things: no cell is looked at, for there are fewer bytes than cells.
func TestP44CountAheadOfThings(t *testing.T) {
	is(t, "a kind that is none", taken("Cells", count(4)+"\x03\x00\x00\x00"), "[] 0 /22")
	is(t, "a kind that is none, and too few bytes", taken("Cells", count(5)+"\x03\x00\x00\x00"), "[] 0 /20")
}

func TestP44Kinds(t *testing.T) {
	for kind := 3; kind < 256; kind++ {
		b := string([]byte{byte(kind)})
		is(t, fmt.Sprint("Cell ", kind), taken("Cell", b+count(0)+count(0)), `{0 0 ""} 0 /22`)
		is(t, fmt.Sprint("Cells ", kind), taken("Cells", count(2)+"\x00"+b), "[] 0 /22")
	}
	is(t, "a number that ends early", taken("Cell", "\x01234567"), `{0 0 ""} 0 /20`)
	is(t, "a text that ends early", taken("Cell", "\x02\x02\x00\x00\x00a"), `{0 0 ""} 0 /20`)
}

func TestP44Most(t *testing.T) {
	for _, c := range []struct {
		bytes      string
		most, n, e int
	}{
		{count(0), 0, 0, 0},
		{count(1), 0, 0, 23},
		{count(5), 5, 5, 0},
		{count(5), 4, 0, 23},
		{count(5), math.MaxInt, 5, 0},
		{count(0), -1, 0, 23},
		{count(5), math.MinInt, 0, 23},
		{"\xff\xff\xff\xff", 4294967295, 4294967295, 0},
		{"\xff\xff\xff\xff", 4294967294, 0, 23},
		{"\xff\xff\xff\xff", 1 << 40, 4294967295, 0},
		{"\xff\xff\xff", -1, 0, 20},
		{"", 5, 0, 20},
	} {
		r := Read(c.bytes)
		is(t, fmt.Sprintf("Count(%d) of %q", c.most, c.bytes), fmt.Sprint(r.Count(c.most), int(r.Done())), fmt.Sprint(c.n, c.e))
	}
	r := Read(count(5) + count(3))
	is(t, "above most, with bytes behind it", fmt.Sprint(r.Count(4), r.Left(), int(r.Done()), r.Count(4)), "0 0 23 0")
}

func TestP44BehindAnError(t *testing.T) {
	for _, first := range []struct {
		what string
		e    api.Errno
		fail func(r *Reader)
	}{
		{"short", api.ErrShort, func(r *Reader) { r.Text() }},
		{"form", api.ErrForm, func(r *Reader) { r.Cell() }},
		{"size", api.ErrSize, func(r *Reader) { r.Count(1) }},
		{"Fail", api.ErrStore, func(r *Reader) { r.Fail(api.ErrStore) }},
	} {
		r := Read(strings.Repeat("\xff", 100))
		first.fail(r)
		is(t, first.what, fmt.Sprint(r.Left(), int(r.Done())), fmt.Sprint(0, int(first.e)))
		for _, c := range takes {
			is(t, first.what+", then "+c.what, c.take(r), c.zero)
			is(t, first.what+", then Count of less than none", r.Count(-1), 0)
			r.Fail(api.ErrFull)
			is(t, "the first error stays", fmt.Sprint(r.Left(), int(r.Done())), fmt.Sprint(0, int(first.e)))
		}
	}
}

func TestP44Fail(t *testing.T) {
	r := Read("abc")
	r.Fail(api.OK)
	is(t, "OK is none", fmt.Sprint(r.Left(), r.Byte(), int(r.Done())), "3 97 22")
	r.Fail(api.ErrName)
	is(t, "Fail", fmt.Sprint(r.Left(), int(r.Done())), "0 42")
	r.Fail(api.OK)
	is(t, "it stays", int(r.Done()), 42)
	for _, e := range []api.Errno{1, 20, 77, -5, math.MaxInt, math.MinInt} {
		r := Read("")
		r.Fail(e)
		is(t, "any error, also without bytes", int(r.Done()), int(e))
	}
}

func TestP44Done(t *testing.T) {
	is(t, "of nothing", Read("").Done(), api.OK)
	r := Read("\x01\x02")
	is(t, "nothing is taken", r.Done(), api.ErrForm)
	is(t, "it is told, and changes nothing", fmt.Sprint(r.Left(), r.Byte(), int(r.Done()), r.Byte(), int(r.Done())), "2 1 22 2 0")
	r.Byte()
	is(t, "none is left to take", r.Done(), api.ErrShort)
}

func TestP44Left(t *testing.T) {
	r := Read("\x01" + count(9) + count(2) + "ab" + "rest")
	is(t, "all", r.Left(), 15)
	r.Byte()
	is(t, "behind a Byte", r.Left(), 14)
	r.Count(9)
	is(t, "behind a Count", r.Left(), 10)
	r.Text()
	is(t, "behind a Text", r.Left(), 4)
	r.Int()
	is(t, "behind an error", r.Left(), 0)
}

func TestP44NilAndZero(t *testing.T) {
	var none *Reader
	for _, c := range takes {
		is(t, "of a nil one: "+c.what, c.take(none), c.zero)
		none.Fail(api.ErrName)
		is(t, "of a nil one", fmt.Sprint(none.Count(-1), none.Left(), int(none.Done())), "0 0 1")
		empty := &Reader{}
		is(t, "a zero one is empty", fmt.Sprint(empty.Left(), int(empty.Done())), "0 0")
		is(t, "of a zero one: "+c.what, c.take(empty), c.zero)
		is(t, "of a zero one", int(empty.Done()), 20)
	}
}

func TestP44WhatIsToldIsItsOwners(t *testing.T) {
	w := &Writer{}
	w.Facts([]api.Fact{{Dims: []string{"x", "y"}, Meas: []int64{1, 2}}, {Dims: []string{"z"}, Meas: []int64{3}}})
	s, _ := w.Done()
	a, b := Read(s), Read(s)
	first := a.Facts()
	first[0].Dims = append(first[0].Dims, "more")
	first[0].Meas = append(first[0].Meas, 9)
	first[0].Dims[0], first[0].Meas[0] = "other", 7
	is(t, "the other fact", fmt.Sprint(first[1]), "{[z] [3]}")
	is(t, "another reader's", fmt.Sprint(b.Facts()), "[{[x y] [1 2]} {[z] [3]}]")
}
