package catalog

import (
	"encoding/binary"
	"fmt"
	"hash/crc32"
	"math"
	"strings"
	"testing"

	"caisson/api"
	"caisson/codec"
	"caisson/disk"
)

func is(t *testing.T, what string, got, want any) {
	t.Helper()
	if g, w := fmt.Sprint(got), fmt.Sprint(want); g != w {
		t.Errorf("%s: %.600s, want %.600s", what, g, w)
	}
}

// things with a blank between each two of them
func line(things ...any) string { return strings.TrimSuffix(fmt.Sprintln(things...), "\n") }

func bytesTold(s string, e api.Errno) string { return fmt.Sprintf("%d: %q", int(e), s) }

func readTold(c api.Checkpoint, e api.Errno) string { return fmt.Sprint(int(e), ": ", show(c)) }

func loadTold(c api.Checkpoint, ok bool, e api.Errno) string {
	return fmt.Sprint(int(e), " ", ok, ": ", show(c))
}

const (
	noBytes = `%d: ""`
	none    = "0 []/[] [] []" // the zero checkpoint
)

// all that a checkpoint has: its texts quoted, nil as an empty list
func show(c api.Checkpoint) string {
	s := fmt.Sprintf("%d %q/%q %d [", c.Seq, c.Schema.Dims, c.Schema.Meas, c.Views)
	for _, batch := range c.Batches {
		s += "("
		for _, f := range batch {
			s += fmt.Sprintf("%q%d", f.Dims, f.Meas)
		}
		s += ")"
	}
	return s + "]"
}

// The bytes of things, put together by other means than the program's.

func num(n int64) string { return string(binary.LittleEndian.AppendUint64(nil, uint64(n))) }

func cnt(n int) string { return string(binary.LittleEndian.AppendUint32(nil, uint32(n))) }

func txt(s string) string { return cnt(len(s)) + s }

func txts(l ...string) string {
	s := cnt(len(l))
	for _, one := range l {
		s += txt(one)
	}
	return s
}

func nums(l ...int64) string {
	s := cnt(len(l))
	for _, one := range l {
		s += num(one)
	}
	return s
}

func frm(body string) string {
	return cnt(len(body)) + cnt(int(crc32.ChecksumIEEE([]byte(body)))) + body
}

func mani(name string) string { return frm(txt(name)) }

// a batch's body
func facts(l ...api.Fact) string {
	s := cnt(len(l))
	for _, f := range l {
		s += txts(f.Dims...) + nums(f.Meas...)
	}
	return s
}

func whole(c api.Checkpoint) string {
	views := []int64{}
	for _, v := range c.Views {
		views = append(views, int64(v))
	}
	s := frm(num(int64(c.Seq)) + txts(c.Schema.Dims...) + txts(c.Schema.Meas...) + nums(views...) + cnt(len(c.Batches)))
	for _, batch := range c.Batches {
		s += frm(facts(batch...))
	}
	return s
}

func fact(dims []string, meas ...int64) api.Fact { return api.Fact{Dims: dims, Meas: meas} }

// a checkpoint of two batches
func two(seq int) api.Checkpoint {
	return api.Checkpoint{
		Seq:     seq,
		Schema:  api.Schema{Dims: []string{"a", "b"}, Meas: []string{"m"}},
		Views:   []int{1, 3},
		Batches: [][]api.Fact{{fact([]string{"x", "p"}, 5), fact([]string{"", "\xff"}, -5)}, nil},
	}
}

// checkpoints of all kinds
func many() []api.Checkpoint {
	return []api.Checkpoint{
		{},
		two(2),
		{Seq: math.MaxInt},
		{Schema: api.Schema{Dims: []string{""}}},
		{Schema: api.Schema{Meas: []string{"m", "n", "\x00"}}},
		{Views: []int{0, -1, 63, math.MaxInt, math.MinInt}},
		{Batches: [][]api.Fact{nil}},
		{Batches: [][]api.Fact{nil, {}, {{}}, {{}, {}}}},
		{Seq: 1, Batches: [][]api.Fact{{fact([]string{"", "a"}), fact(nil, math.MinInt64, 0, math.MaxInt64)}}},
	}
}

// views with which a checkpoint's first body has so many bytes; the schema takes up what is no view's
func headOfSize(bytes int) api.Checkpoint {
	views := make([]int, (bytes-64)/8)
	name := strings.Repeat("n", bytes-8-4-4-4-4-8*len(views)-4)
	return api.Checkpoint{Schema: api.Schema{Dims: []string{name}}, Views: views}
}

// a batch whose body has so many bytes
func batchOfSize(bytes int) []api.Fact {
	return []api.Fact{fact([]string{strings.Repeat("t", bytes-16)})}
}

// a disk with files, firm as they are: names and bytes by turns
func with(files ...string) *disk.Disk {
	d := disk.New(api.MaxDisk)
	for i := 0; i < len(files); i += 2 {
		for _, e := range []api.Errno{d.Write(files[i], files[i+1]), d.Sync(files[i]), d.Settle()} {
			if e != api.OK {
				panic(e)
			}
		}
	}
	return d
}

// all that a disk holds
func files(d *disk.Disk) string {
	s := ""
	for _, name := range d.List() {
		data, _ := d.Read(name)
		s += fmt.Sprintf("%s=%x;", name, data)
	}
	return s
}

// a disk whose power is out
func off() *disk.Disk {
	d := with(manifest, mani("cat-00000001"), "cat-00000001", whole(two(2)))
	d.Arm(0)
	d.Settle()
	return d
}

// a text with one bit turned
func turned(s string, at, bit int) string {
	b := []byte(s)
	b[at] ^= 1 << bit
	return string(b)
}

func TestExamples(t *testing.T) {
	d := disk.New(10000)
	is(t, "Load of an empty disk", loadTold(Load(d)), "0 false: "+none)
	is(t, "Save", Save(d, two(2)), api.OK)
	is(t, "Load", loadTold(Load(d)), "0 true: "+show(two(2)))
	seqs := []int{}
	for k := range 10 {
		x := d.Copy()
		x.Arm(k)
		Save(x, two(3))
		x.Crash(nil)
		c, ok, e := Load(x)
		is(t, fmt.Sprint("step ", k), line(ok, e), line(true, api.OK))
		seqs = append(seqs, c.Seq)
	}
	is(t, "Load behind Arm, Save, Crash", seqs, "[2 2 2 2 2 2 2 3 3 3]")
	x := with(manifest, mani("cat-00000001"), "cat-00000001", turned(whole(two(2)), 9, 0))
	is(t, "turned", loadTold(Load(x)), "27 false: "+none)
}

func TestP81File(t *testing.T) {
	for _, c := range []struct {
		number int
		want   string
	}{
		{1, "cat-00000001"}, {12, "cat-00000012"}, {10203040, "cat-10203040"}, {9999999, "cat-09999999"}, {99999999, "cat-99999999"},
		{0, ""}, {-1, ""}, {100000000, ""}, {math.MaxInt, ""}, {math.MinInt, ""},
	} {
		is(t, fmt.Sprint("File ", c.number), File(c.number), c.want)
	}
}

func TestP81Bytes(t *testing.T) {
	c := api.Checkpoint{Seq: 258, Schema: api.Schema{Dims: []string{"a"}, Meas: []string{"mn"}}, Views: []int{2}, Batches: [][]api.Fact{{fact([]string{"x"}, 7)}}}
	s, e := Bytes(c)
	head := "0201000000000000" + "01000000" + "01000000" + "61" + "01000000" + "02000000" + "6d6e" + "01000000" + "0200000000000000" + "01000000"
	batch := "01000000" + "01000000" + "01000000" + "78" + "01000000" + "0700000000000000"
	if got := fmt.Sprintf("%x", s); e != api.OK || len(got) < 16 || got[16:16+len(head)] != head || got[len(got)-len(batch):] != batch {
		t.Errorf("Bytes: %v %s", e, got)
	}
	for i, c := range many() {
		is(t, fmt.Sprint("checkpoint ", i), bytesTold(Bytes(c)), bytesTold(whole(c), api.OK))
	}
}

func TestP81BytesErrors(t *testing.T) {
	long := make([]int, 8200)
	for _, c := range []struct {
		what string
		c    api.Checkpoint
		want int
	}{
		{"a Seq below 0", two(-1), 1},
		{"the least Seq", two(math.MinInt), 1},
		{"a Seq below 0 and a great head", api.Checkpoint{Seq: -1, Views: long}, 1},
		{"a great head", headOfSize(65537), 23},
		{"many views", api.Checkpoint{Views: long}, 23},
		{"a long name", api.Checkpoint{Schema: api.Schema{Meas: []string{strings.Repeat("m", 1<<20)}}}, 23},
		{"a great batch", api.Checkpoint{Batches: [][]api.Fact{batchOfSize(65537)}}, 23},
		{"a great batch behind others", api.Checkpoint{Batches: [][]api.Fact{nil, batchOfSize(100), batchOfSize(65537), nil}}, 23},
		{"a batch of many", api.Checkpoint{Batches: [][]api.Fact{make([]api.Fact, 1<<20)}}, 23},
	} {
		is(t, c.what, bytesTold(Bytes(c.c)), fmt.Sprintf(noBytes, c.want))
	}
}

// A thing that is too many for a Count is too great for a frame, whatever the writer calls it; a checkpoint that has one takes too much room for a test.
func TestP81BytesBeyondACount(t *testing.T) {
	for _, many := range []int{math.MaxUint32 + 1, math.MaxInt} {
		for _, ahead := range []int{0, 65536 - 8, 65536} {
			w, all := &codec.Writer{}, strings.Builder{}
			for range ahead {
				w.Byte(1)
			}
			w.Count(many)
			is(t, fmt.Sprint("a Count of ", many, " behind ", ahead), line(lay(&all, w), all.Len()), line(api.ErrSize, 0))
		}
	}
}

// Each frame may have as many bytes as there may be, all of them many more.
func TestP81Greatest(t *testing.T) {
	great := headOfSize(65536)
	great.Batches = [][]api.Fact{batchOfSize(65536), batchOfSize(65536), make([]api.Fact, 64)}
	s, e := Bytes(great)
	is(t, "bytes", line(e, len(s)), line(api.OK, 3*65544+12+64*8))
	is(t, "as they are", s == whole(great), true)
	is(t, "read", readTold(Read(s)), "0: "+show(great))
	batches := api.Checkpoint{Batches: make([][]api.Fact, 3000)}
	is(t, "many batches", readTold(Read(whole(batches))), "0: "+show(batches))
}

func TestP81Read(t *testing.T) {
	for i, c := range many() {
		is(t, fmt.Sprint("checkpoint ", i), readTold(Read(whole(c))), "0: "+show(c))
	}
}

func TestP81ReadErrors(t *testing.T) {
	start := num(1) + txts("a") + txts("m") // what stands ahead of the views
	empty := frm(facts())
	for _, c := range []struct{ what, bytes string }{
		{"nothing", ""},
		{"an empty frame", frm("")},
		{"a manifest", mani("cat-00000001")},
		{"a Seq below 0", frm(num(-1) + txts("a") + txts("m") + nums() + cnt(0))},
		{"the least Seq", frm(num(math.MinInt64)+txts()+txts()+nums()+cnt(1)) + empty},
		{"a Seq alone", frm(num(1))},
		{"a head without views", frm(start)},
		{"a head without a Count of batches", frm(start + nums(1))},
		{"a head cut short", frm(start + nums(1) + "\x00\x00\x00")},
		{"a head with more", frm(start+nums(1)+cnt(0)) + "\x00"},
		{"a head's body with more", frm(start + nums(1) + cnt(0) + "\x00")},
		{"a head's body with more, and a batch", frm(start+nums(1)+cnt(1)+"\x00") + empty},
		{"more views than there are", frm(start + cnt(3) + num(1) + num(2) + cnt(0))},
		{"a view that is half there", frm(start + cnt(2) + num(1) + cnt(0))},
		{"very many views", frm(start + cnt(math.MaxUint32) + num(1) + cnt(0))},
		{"more batches than there are", frm(start+nums()+cnt(2)) + empty},
		{"one batch, and none is there", frm(start + nums() + cnt(1))},
		{"very many batches", frm(start+nums()+cnt(math.MaxUint32)) + empty},
		{"a batch more", frm(start+nums()+cnt(1)) + empty + empty},
		{"a batch where none is said", frm(start+nums()+cnt(0)) + empty},
		{"bytes behind a batch", frm(start+nums()+cnt(1)) + empty + "x"},
		{"a batch's body with more", frm(start+nums()+cnt(1)) + frm(facts()+"x")},
		{"a batch's body with less", frm(start+nums()+cnt(1)) + frm("\x00\x00\x00")},
		{"a batch without a body", frm(start+nums()+cnt(1)) + frm("")},
		{"a batch with more facts than there are", frm(start+nums()+cnt(1)) + frm(cnt(2)+txts()+nums())},
		{"a first batch with more, a second one", frm(start+nums()+cnt(2)) + frm(facts()+"x") + empty},
		{"two heads", frm(start+nums()+cnt(0)) + frm(start+nums()+cnt(0))},
		{"a frame that is too great", cnt(65537) + cnt(0) + strings.Repeat("x", 70000)},
		{"a frame of a great Count", strings.Repeat("\xff", 100)},
	} {
		is(t, c.what, readTold(Read(c.bytes)), "27: "+none)
	}
}

// Each text that is cut short, longer, or has a bit turned is no checkpoint.
func TestP81ReadBroken(t *testing.T) {
	c := two(2)
	c.Batches = append(c.Batches, []api.Fact{fact([]string{"y", "q"}, 1)})
	s := whole(c)
	for at := range s {
		is(t, fmt.Sprint("cut to ", at), readTold(Read(s[:at])), "27: "+none)
		is(t, fmt.Sprint("and again from ", at), readTold(Read(s+s[at:])), "27: "+none)
		for bit := range 8 {
			is(t, fmt.Sprint("turned ", at, " ", bit), readTold(Read(turned(s, at, bit))), "27: "+none)
		}
	}
}

// What was handed in, and what was told, are apart from each other and from the disk.
func TestMemory(t *testing.T) {
	d, c := disk.New(10000), two(2)
	s, _ := Bytes(c)
	Save(d, c)
	spoil(c)
	is(t, "bytes", s, whole(two(2)))
	a, _, _ := Load(d)
	is(t, "saved", show(a), show(two(2)))
	spoil(a)
	is(t, "loaded again", loadTold(Load(d)), "0 true: "+show(two(2)))
	b, _ := Read(s)
	spoil(b)
	is(t, "read again", readTold(Read(s)), "0: "+show(two(2)))
	kept := two(2)
	Bytes(kept)
	Save(d, kept)
	is(t, "as it was", show(kept), show(two(2)))
}

func spoil(c api.Checkpoint) {
	c.Schema.Dims[0], c.Schema.Meas[0], c.Views[0] = "z", "z", 9
	c.Batches[0][0].Dims[0], c.Batches[0][0].Meas[0] = "z", 9
	_ = append(c.Batches[0][:1], api.Fact{})
	_ = append(c.Batches[:1], []api.Fact{{}})
}
