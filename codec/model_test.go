package codec

import (
	"encoding/binary"
	"fmt"
	"math"
	"testing"

	"caisson/api"
)

// model takes things up by other means: it goes by a place in the bytes, and panics with the first error.
type model struct {
	bytes []byte
	at    int
}

func (m *model) need(many uint64) {
	if many > uint64(len(m.bytes)-m.at) {
		panic(api.ErrShort)
	}
}

func (m *model) byte() byte {
	m.need(1)
	m.at++
	return m.bytes[m.at-1]
}

func (m *model) count() uint64 {
	m.need(4)
	m.at += 4
	return uint64(binary.LittleEndian.Uint32(m.bytes[m.at-4:]))
}

func (m *model) int() int64 {
	m.need(8)
	m.at += 8
	return int64(binary.LittleEndian.Uint64(m.bytes[m.at-8:]))
}

func (m *model) text() string {
	n := m.count()
	m.need(n)
	m.at += int(n)
	return string(m.bytes[m.at-int(n) : m.at])
}

func (m *model) texts() (l []string) {
	n := m.count()
	m.need(n * 4)
	for range n {
		l = append(l, m.text())
	}
	return l
}

func (m *model) cell() api.Cell {
	switch m.byte() {
	case 0:
		return api.Cell{}
	case 1:
		return api.Cell{Kind: 1, Int: m.int()}
	case 2:
		return api.Cell{Kind: 2, Text: m.text()}
	}
	panic(api.ErrForm)
}

func (m *model) cells() (l []api.Cell) {
	n := m.count()
	m.need(n)
	for range n {
		l = append(l, m.cell())
	}
	return l
}

func (m *model) fact() (f api.Fact) {
	f.Dims = m.texts()
	n := m.count()
	m.need(n * 8)
	for range n {
		f.Meas = append(f.Meas, m.int())
	}
	return f
}

func (m *model) facts() (l []api.Fact) {
	n := m.count()
	m.need(n * 8)
	for range n {
		l = append(l, m.fact())
	}
	return l
}

// each call of both, what it tells as a text
var both = []struct {
	what  string
	model func(m *model) any
	codec func(r *Reader) any
}{
	{"Byte", func(m *model) any { return m.byte() }, func(r *Reader) any { return r.Byte() }},
	{"Int", func(m *model) any { return m.int() }, func(r *Reader) any { return r.Int() }},
	{"Count", func(m *model) any { return m.count() }, func(r *Reader) any { return r.Count(math.MaxInt) }},
	{"Text", func(m *model) any { return m.text() }, func(r *Reader) any { return r.Text() }},
	{"Texts", func(m *model) any { return m.texts() }, func(r *Reader) any { return r.Texts() }},
	{"Cell", func(m *model) any { return m.cell() }, func(r *Reader) any { return r.Cell() }},
	{"Cells", func(m *model) any { return m.cells() }, func(r *Reader) any { return r.Cells() }},
	{"Fact", func(m *model) any { return m.fact() }, func(r *Reader) any { return r.Fact() }},
	{"Facts", func(m *model) any { return m.facts() }, func(r *Reader) any { return r.Facts() }},
	{"Schema", func(m *model) any { return api.Schema{Dims: m.texts(), Meas: m.texts()} }, func(r *Reader) any { return r.Schema() }},
}

// what the model tells of a text by one call: the thing, how many bytes are left, the first error
func modelTold(s string, call func(m *model) any, zero any) (told string) {
	m := &model{bytes: []byte(s)}
	defer func() {
		if e := recover(); e != nil {
			told = fmt.Sprintf("%#v 0 %d", zero, e)
		}
	}()
	thing := call(m)
	left, e := len(s)-m.at, api.OK
	if left > 0 {
		e = api.ErrForm
	}
	return fmt.Sprintf("%#v %d %d", plain(thing), left, e)
}

// the thing with nil in the place of lists without elements
func plain(thing any) any {
	switch x := thing.(type) {
	case []string:
		return append([]string(nil), x...)
	case []api.Cell:
		return append([]api.Cell(nil), x...)
	case api.Fact:
		return api.Fact{Dims: append([]string(nil), x.Dims...), Meas: append([]int64(nil), x.Meas...)}
	case api.Schema:
		return api.Schema{Dims: append([]string(nil), x.Dims...), Meas: append([]string(nil), x.Meas...)}
	case []api.Fact:
		var l []api.Fact
		for _, f := range x {
			l = append(l, plain(f).(api.Fact))
		}
		return l
	case uint64:
		return int(x)
	}
	return thing
}

// every call says of a text what the model says
func compare(t *testing.T, s string) {
	t.Helper()
	for _, c := range both {
		r := Read(s)
		thing := c.codec(r)
		got := fmt.Sprintf("%#v %d %d", plain(thing), r.Left(), r.Done())
		want := modelTold(s, c.model, plain(c.codec(Read(""))))
		if got != want {
			t.Errorf("%s of %q: %s, want %s", c.what, s, got, want)
		}
	}
}

// All texts of a few pieces: counts, kinds, bytes in all orders.
func TestModelOfPieces(t *testing.T) {
	pieces := []string{"\x00", "\x01", "\x02", "\x03", "\x00\x00\x00\x00", "\x01\x00\x00\x00", "\x02\x00\x00\x00", "\x05\x00\x00\x00\x00\x00\x00\x00", "\xff\xff\xff\xff"}
	var all func(s string, deep int)
	all = func(s string, deep int) {
		compare(t, s)
		if deep == 0 {
			return
		}
		for _, p := range pieces {
			all(s+p, deep-1)
		}
	}
	all("", 5)
}

// a list of things, as calls of a writer and of a reader
type thing struct {
	write func(w *Writer)
	read  func(r *Reader) string
	want  string
}

func things() []thing {
	var l []thing
	add := func(write func(w *Writer), read func(r *Reader) any, want any) {
		l = append(l, thing{write, func(r *Reader) string { return fmt.Sprintf("%#v", plain(read(r))) }, fmt.Sprintf("%#v", plain(want))})
	}
	for _, b := range []byte{0, 1, 128, 255} {
		add(aByte(b), func(r *Reader) any { return r.Byte() }, b)
	}
	for _, n := range []int64{0, 1, -1, 256, math.MinInt64, math.MaxInt64} {
		add(anInt(n), func(r *Reader) any { return r.Int() }, n)
	}
	for _, n := range []int{0, 1, 65536, 4294967295} {
		add(aCount(n), func(r *Reader) any { return r.Count(n) }, n)
	}
	for _, s := range []string{"", "a", "\x00\xff", text(200)} {
		add(aText(s), func(r *Reader) any { return r.Text() }, s)
	}
	lists := [][]string{nil, {""}, {"a"}, {"a", "", "bcd", "\xff"}}
	numbers := [][]int64{nil, {0}, {5, -5, math.MinInt64}}
	cell := []api.Cell{{}, {Kind: api.Int}, {Kind: api.Int, Int: -7}, {Kind: api.Text}, {Kind: api.Text, Text: "a\x00"}}
	for _, c := range cell {
		add(aCell(c), func(r *Reader) any { return r.Cell() }, c)
	}
	for many := range len(cell) + 1 {
		add(cells(cell[:many]...), func(r *Reader) any { return r.Cells() }, cell[:many])
	}
	var fact []api.Fact
	for _, a := range lists {
		add(texts(a...), func(r *Reader) any { return r.Texts() }, a)
		for _, b := range lists {
			s := api.Schema{Dims: a, Meas: b}
			add(aSchema(s), func(r *Reader) any { return r.Schema() }, s)
		}
		for _, b := range numbers {
			f := aFactOf(a, b)
			fact = append(fact, f)
			add(aFact(f), func(r *Reader) any { return r.Fact() }, f)
		}
	}
	for many := range len(fact) + 1 {
		add(facts(fact[:many]...), func(r *Reader) any { return r.Facts() }, fact[:many])
	}
	return l
}

func TestP45WrittenAndRead(t *testing.T) {
	all, w := things(), &Writer{}
	for _, thing := range all {
		thing.write(w)
	}
	s, e := w.Done()
	is(t, "written", e, api.OK)
	r := Read(s)
	for i, thing := range all {
		is(t, fmt.Sprint("thing ", i), thing.read(r), thing.want)
	}
	is(t, "nothing is left", fmt.Sprint(r.Left(), int(r.Done())), "0 0")
	for many := range len(s) {
		r := Read(s[:many])
		for _, thing := range all {
			thing.read(r)
		}
		is(t, fmt.Sprint("cut to ", many), fmt.Sprint(r.Left(), int(r.Done())), "0 20")
	}
}

func TestP45EachPair(t *testing.T) {
	all := things()
	for i, a := range all {
		for j, b := range all {
			w := &Writer{}
			a.write(w)
			b.write(w)
			s, _ := w.Done()
			r := Read(s)
			is(t, fmt.Sprint("pair ", i, " ", j), fmt.Sprint(a.read(r), b.read(r), r.Left(), int(r.Done())), fmt.Sprint(a.want, b.want, 0, 0))
		}
	}
}
