package codec

import (
	"fmt"
	"math"
	"strings"
	"testing"

	"caisson/api"
)

// what a new writer has that is told these things
func written(things ...func(w *Writer)) string {
	w := &Writer{}
	for _, thing := range things {
		thing(w)
	}
	return hex(w.Done())
}

// each thing as a call of a writer
func aByte(b byte) func(w *Writer)           { return func(w *Writer) { w.Byte(b) } }
func anInt(n int64) func(w *Writer)          { return func(w *Writer) { w.Int(n) } }
func aCount(n int) func(w *Writer)           { return func(w *Writer) { w.Count(n) } }
func aText(s string) func(w *Writer)         { return func(w *Writer) { w.Text(s) } }
func texts(l ...string) func(w *Writer)      { return func(w *Writer) { w.Texts(l) } }
func aCell(c api.Cell) func(w *Writer)       { return func(w *Writer) { w.Cell(c) } }
func cells(l ...api.Cell) func(w *Writer)    { return func(w *Writer) { w.Cells(l) } }
func aFact(f api.Fact) func(w *Writer)       { return func(w *Writer) { w.Fact(f) } }
func facts(l ...api.Fact) func(w *Writer)    { return func(w *Writer) { w.Facts(l) } }
func aSchema(s api.Schema) func(w *Writer)   { return func(w *Writer) { w.Schema(s) } }
func aFactOf(d []string, m []int64) api.Fact { return api.Fact{Dims: d, Meas: m} }

// cells that may not be
var noCells = []api.Cell{
	{Kind: -1}, {Kind: 3}, {Kind: 255}, {Kind: 256}, {Kind: 257}, {Kind: 258}, {Kind: math.MaxInt}, {Kind: math.MinInt},
	{Kind: api.Null, Int: 1}, {Kind: api.Null, Int: -1}, {Kind: api.Null, Text: "t"}, {Kind: api.Null, Int: 1, Text: "t"},
	{Kind: api.Int, Text: "t"}, {Kind: api.Int, Int: 5, Text: "\x00"},
	{Kind: api.Text, Int: 1}, {Kind: api.Text, Int: math.MinInt64, Text: "t"},
}

func TestP43Bytes(t *testing.T) {
	for _, c := range []struct {
		what  string
		thing func(w *Writer)
		want  string
	}{
		{"nothing", func(w *Writer) {}, "/0"},
		{"Byte 0", aByte(0), "00 /0"},
		{"Byte 255", aByte(255), "ff /0"},
		{"Int 0", anInt(0), "00 00 00 00 00 00 00 00 /0"},
		{"Int 1", anInt(1), "01 00 00 00 00 00 00 00 /0"},
		{"Int -1", anInt(-1), "ff ff ff ff ff ff ff ff /0"},
		{"Int, each byte", anInt(0x1122334455667788), "88 77 66 55 44 33 22 11 /0"},
		{"Int, the least", anInt(math.MinInt64), "00 00 00 00 00 00 00 80 /0"},
		{"Int, the greatest", anInt(math.MaxInt64), "ff ff ff ff ff ff ff 7f /0"},
		{"Count 0", aCount(0), "00 00 00 00 /0"},
		{"Count, each byte", aCount(0x11223344), "44 33 22 11 /0"},
		{"Count, the greatest", aCount(4294967295), "ff ff ff ff /0"},
		{"Text of nothing", aText(""), "00 00 00 00 /0"},
		{"Text of any bytes", aText("\x00\xff"), "02 00 00 00 00 ff /0"},
		{"Texts, none", texts(), "00 00 00 00 /0"},
		{"Texts", texts("a", "", "bc"), "03 00 00 00 01 00 00 00 61 00 00 00 00 02 00 00 00 62 63 /0"},
		{"Cell, Null", aCell(api.Cell{}), "00 /0"},
		{"Cell, Int", aCell(api.Cell{Kind: api.Int, Int: -2}), "01 fe ff ff ff ff ff ff ff /0"},
		{"Cell, Int 0", aCell(api.Cell{Kind: api.Int}), "01 00 00 00 00 00 00 00 00 /0"},
		{"Cell, Text", aCell(api.Cell{Kind: api.Text, Text: "t"}), "02 01 00 00 00 74 /0"},
		{"Cell, Text of nothing", aCell(api.Cell{Kind: api.Text}), "02 00 00 00 00 /0"},
		{"Cells, none", cells(), "00 00 00 00 /0"},
		{"Cells", cells(api.Cell{}, api.Cell{Kind: api.Text, Text: "t"}), "02 00 00 00 00 02 01 00 00 00 74 /0"},
		{"Fact, a zero one", aFact(api.Fact{}), "00 00 00 00 00 00 00 00 /0"},
		{"Fact", aFact(aFactOf([]string{"x", ""}, []int64{5})), "02 00 00 00 01 00 00 00 78 00 00 00 00 01 00 00 00 05 00 00 00 00 00 00 00 /0"},
		{"Facts, none", facts(), "00 00 00 00 /0"},
		{"Facts", facts(api.Fact{}, aFactOf([]string{"x"}, nil)), "02 00 00 00 00 00 00 00 00 00 00 00 01 00 00 00 01 00 00 00 78 00 00 00 00 /0"},
		{"Schema, a zero one", aSchema(api.Schema{}), "00 00 00 00 00 00 00 00 /0"},
		{"Schema", aSchema(api.Schema{Dims: []string{"a", "b"}, Meas: []string{"m"}}), "02 00 00 00 01 00 00 00 61 01 00 00 00 62 01 00 00 00 01 00 00 00 6d /0"},
	} {
		is(t, c.what, written(c.thing), c.want)
	}
}

func TestP43OneBehindTheOther(t *testing.T) {
	w := &Writer{}
	w.Byte(1)
	first, _ := w.Done()
	w.Count(2)
	w.Byte(3)
	is(t, "behind a Done", hex(w.Done()), "01 02 00 00 00 03 /0")
	is(t, "Done again", hex(w.Done()), "01 02 00 00 00 03 /0")
	is(t, "what was told stays", hex(first, 0), "01 /0")
	v := &Writer{}
	v.Byte(9)
	is(t, "each is its own", hex(v.Done())+" "+hex(w.Done()), "09 /0 01 02 00 00 00 03 /0")
}

func TestP43Counts(t *testing.T) {
	for _, n := range []int{-1, -2, math.MinInt, 4294967296, 4294967297, math.MaxInt} {
		is(t, fmt.Sprint("Count ", n), written(aCount(n)), "/1")
		is(t, fmt.Sprint("Count behind others ", n), written(aByte(7), aCount(n), aByte(8)), "/1")
	}
}

func TestP43Cells(t *testing.T) {
	for _, c := range noCells {
		is(t, fmt.Sprint("Cell ", c), written(aCell(c)), "/1")
		is(t, fmt.Sprint("Cells ", c), written(cells(api.Cell{}, c, api.Cell{})), "/1")
		is(t, fmt.Sprint("behind others ", c), written(aText("ab"), aCell(c), aText("cd")), "/1")
	}
}

func TestP43Size(t *testing.T) {
	full := aText(text(65532))
	w := &Writer{}
	full(w)
	s, e := w.Done()
	is(t, "as many as may be", fmt.Sprint(len(s), int(e)), "65536 0")
	w.Texts(nil)
	is(t, "and some more", hex(w.Done()), "/23")
	for _, c := range []struct {
		what  string
		thing func(w *Writer)
		many  int
	}{
		{"Byte", aByte(1), 1},
		{"Int", anInt(1), 8},
		{"Count", aCount(1), 4},
		{"Text", aText("abc"), 7},
		{"Texts", texts("ab", "c"), 15},
		{"Cell", aCell(api.Cell{}), 1},
		{"a cell of a number", aCell(api.Cell{Kind: api.Int}), 9},
		{"Cells", cells(api.Cell{}, api.Cell{Kind: api.Text, Text: "t"}), 11},
		{"Fact", aFact(aFactOf([]string{"x"}, []int64{1, 2})), 29},
		{"Facts", facts(api.Fact{}, api.Fact{}), 20},
		{"Schema", aSchema(api.Schema{Dims: []string{"d"}, Meas: []string{"m"}}), 18},
	} {
		w := &Writer{}
		w.Text(text(65532 - c.many))
		c.thing(w)
		s, e := w.Done()
		is(t, c.what+" that just fits", fmt.Sprint(len(s), int(e)), "65536 0")
		for less := 1; less <= c.many; less++ {
			is(t, fmt.Sprint(c.what, " that lacks room for ", less), written(aText(text(65532-c.many+less)), c.thing), "/23")
		}
	}
	is(t, "a text that is too long", written(aText(text(65533))), "/23")
	is(t, "a long text", written(aText(strings.Repeat("t", 1<<20))), "/23")
	is(t, "many texts", written(func(w *Writer) { w.Texts(make([]string, 16384)) }), "/23")
	w = &Writer{}
	w.Texts(make([]string, 16383))
	s, e = w.Done()
	is(t, "as many texts as may be", fmt.Sprint(len(s), int(e)), "65536 0")
}

func TestP43First(t *testing.T) {
	full, over, bad := aText(text(65532)), aByte(0), aCell(api.Cell{Kind: 3})
	is(t, "a count, then too many", written(aCount(-1), full, over), "/1")
	is(t, "too many, then a count", written(full, over, aCount(-1)), "/23")
	is(t, "a cell, then too many", written(bad, full, over), "/1")
	is(t, "too many, then a cell", written(full, over, bad), "/23")
	is(t, "a cell behind as many as may be", written(full, bad), "/1")
	is(t, "a count behind as many as may be", written(full, aCount(4294967296)), "/1")
	is(t, "cells whose count is too many", written(aText(text(65529)), cells(api.Cell{Kind: 3})), "/23")
	is(t, "cells whose count just fits", written(aText(text(65528)), cells(api.Cell{Kind: 3})), "/1")
	is(t, "cells, of which a good one is too many", written(aText(text(65528)), cells(api.Cell{}, api.Cell{Kind: 3})), "/23")
}

func TestP43BehindAnError(t *testing.T) {
	for _, first := range []func(w *Writer){aCount(-1), aCell(api.Cell{Kind: 3}), aText(text(65533))} {
		w := &Writer{}
		first(w)
		want := hex(w.Done())
		for _, thing := range []func(w *Writer){
			aByte(1), anInt(1), aCount(1), aText("a"), texts("a"), aCell(api.Cell{}), cells(api.Cell{}), aFact(api.Fact{}), facts(api.Fact{}), aSchema(api.Schema{}),
			aCount(-1), aCell(api.Cell{Kind: 3}), aText(text(65533)),
		} {
			thing(w)
			is(t, "Done stays so", hex(w.Done()), want)
		}
	}
}

func TestP43ManyBehindAnError(t *testing.T) {
	dims := make([]string, 1<<20)
	list := make([]api.Fact, 1<<20)
	for i := range list {
		list[i].Dims = dims
	}
	is(t, "a list whose facts share their texts ends", written(facts(list...)), "/23")
}

func TestP43NilWriter(t *testing.T) {
	var w *Writer
	for _, thing := range []func(w *Writer){
		aByte(1), anInt(1), aCount(1), aCount(-1), aText("a"), texts("a"), aCell(api.Cell{}), aCell(api.Cell{Kind: 3}), aCell(api.Cell{Kind: api.Text, Text: "t"}),
		cells(api.Cell{}), aFact(aFactOf([]string{"x"}, []int64{1})), facts(api.Fact{}), aSchema(api.Schema{Dims: []string{"x"}}), aText(text(65533)),
	} {
		thing(w)
		is(t, "nothing comes", hex(w.Done()), "/1")
	}
}

func TestP43WhatIsHandedIn(t *testing.T) {
	dims, meas := []string{"x", "y"}, []int64{1, 2}
	list := []api.Fact{{Dims: dims, Meas: meas}}
	w := &Writer{}
	w.Facts(list)
	want := hex(w.Done())
	is(t, "it stays as it is", fmt.Sprint(list), "[{[x y] [1 2]}]")
	dims[0], meas[1], list[0] = "zzz", 9, api.Fact{}
	is(t, "a change behind the call", hex(w.Done()), want)
}
