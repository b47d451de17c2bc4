package wal

import (
	"fmt"
	"math"
	"strings"
	"testing"

	"caisson/api"
	"caisson/codec"
	"caisson/disk"
)

func is(t *testing.T, what string, got, want any) {
	t.Helper()
	if g, w := fmt.Sprint(got), fmt.Sprint(want); g != w {
		t.Errorf("%s: %s, want %s", what, g, w)
	}
}

// things with a blank between each two of them
func line(things ...any) string { return strings.TrimSuffix(fmt.Sprintln(things...), "\n") }

// an error's number ahead of what is told beside it
func num(n int, e api.Errno) string { return fmt.Sprint(int(e), ":", n) }

func told(l *Log, rs []api.Record, e api.Errno) string {
	s := fmt.Sprint(int(e))
	if (l == nil) != (e != api.OK) {
		s += " log?"
	}
	for _, r := range rs {
		s += fmt.Sprint(" ", r.Seq, "=", short(r.Data))
	}
	if l != nil {
		s += fmt.Sprint(" last ", l.Last(), " firm ", l.Firm())
	}
	return s
}

// a text as it is, or, if it is long, its first byte and how many
func short(s string) string {
	if len(s) > 9 {
		return fmt.Sprint(s[:1], "*", len(s))
	}
	return s
}

// a log that is opened, and a disk that notes what it is asked behind that
func open(t *testing.T, d *disk.Disk, from int) (*Log, *notes) {
	t.Helper()
	l, _, e := Open(d, from)
	if e != api.OK {
		t.Fatalf("Open: %v", e)
	}
	n := &notes{store: l.disk}
	l.disk = n
	return l, n
}

// notes writes down the calls that change a disk
type notes struct {
	store
	calls []string
}

func (n *notes) note(call string, e api.Errno) api.Errno {
	if e != api.OK {
		call += fmt.Sprint("!", int(e))
	}
	n.calls = append(n.calls, call)
	return e
}

func (n *notes) Write(name, data string) api.Errno {
	return n.note(fmt.Sprint("Write ", name[len(name)-min(len(name), 1):], " ", len(data)), n.store.Write(name, data))
}

func (n *notes) Cut(name string, size int) api.Errno {
	return n.note(fmt.Sprint("Cut ", name, " ", size), n.store.Cut(name, size))
}

func (n *notes) Sync(name string) api.Errno {
	return n.note("Sync "+name[len(name)-min(len(name), 1):], n.store.Sync(name))
}

func (n *notes) Settle() api.Errno { return n.note("Settle", n.store.Settle()) }

func (n *notes) Remove(name string) api.Errno {
	return n.note("Remove "+name[len(name)-min(len(name), 1):], n.store.Remove(name))
}

// what was asked since the last time; - if nothing was
func (n *notes) since() string {
	s := strings.Join(n.calls, ", ")
	n.calls = nil
	if s == "" {
		return "-"
	}
	return s
}

// all that a disk holds
func files(d *disk.Disk) string {
	s := []string{}
	for _, name := range d.List() {
		data, _ := d.Read(name)
		s = append(s, fmt.Sprint(name, " ", len(data)))
	}
	return strings.Join(s, ", ")
}

// the bytes of a record
func rec(seq int, data string) string {
	s, e := Record(seq, data)
	if e != api.OK {
		panic(e)
	}
	return s
}

// a disk with segments from a number on, firm as they are
func with(first int, segments ...string) *disk.Disk {
	d := disk.New(api.MaxDisk)
	for i, s := range segments {
		put(d, fmt.Sprintf("wal-%08d", first+i), s)
	}
	return d
}

func put(d *disk.Disk, name, data string) {
	for _, e := range []api.Errno{d.Write(name, data), d.Sync(name), d.Settle()} {
		if e != api.OK {
			panic(e)
		}
	}
}

// a text with one byte turned
func turned(s string, at int) string {
	b := []byte(s)
	b[at] ^= 0x40
	return string(b)
}

func TestExamples(t *testing.T) {
	d := disk.New(10000)
	l, rs, e := Open(d, 0)
	is(t, "Open", told(l, rs, e), "0 last 0 firm 0")
	is(t, "a", num(l.Append("a")), "0:1")
	is(t, "b", num(l.Append("b")), "0:2")
	is(t, "Sync", l.Sync(), api.OK)
	is(t, "c", num(l.Append("c")), "0:3")
	is(t, "Last, Firm", line(l.Last(), l.Firm()), "3 2")
	d.Crash([]int{0})
	is(t, "behind a crash", told(Open(d, 0)), "0 1=a 2=b last 2 firm 2")
	is(t, "from 1", told(Open(d, 1)), "0 2=b last 2 firm 2")
	is(t, "from 3", told(Open(d, 3)), "24")
	data, _ := d.Read("wal-00000001")
	is(t, "turned", told(Open(with(1, turned(data, len(data)-1)), 0)), "24")
}

func TestP51Name(t *testing.T) {
	for _, c := range []struct {
		number int
		want   string
	}{
		{1, "wal-00000001"}, {12, "wal-00000012"}, {9999999, "wal-09999999"}, {99999999, "wal-99999999"},
		{0, ""}, {-1, ""}, {100000000, ""}, {math.MaxInt, ""}, {math.MinInt, ""},
	} {
		is(t, fmt.Sprint("Name ", c.number), Name(c.number), c.want)
	}
}

func TestP51Record(t *testing.T) {
	s, e := Record(258, "ab")
	is(t, "a record", fmt.Sprintf("%x %d", s, e), "0e000000"+fmt.Sprintf("%x", low(codec.Sum(s[8:])))+"0201000000000000020000006162 0")
	for _, seq := range []int{0, -1, 1, math.MaxInt, math.MinInt} {
		s, e := Record(seq, "")
		body, size, f := codec.Unframe(s)
		r := codec.Read(body)
		is(t, fmt.Sprint("of ", seq), line(e, f, size == len(s), r.Int(), r.Text() == "", r.Done()), line(api.OK, api.OK, true, seq, true, api.OK))
	}
	s, e = Record(1, strings.Repeat("x", 65524))
	is(t, "the longest", line(len(s), int(e)), "65544 0")
	s, e = Record(1, strings.Repeat("x", 65525))
	is(t, "one more", line(len(s), int(e)), "0 23")
	s, e = Record(1, strings.Repeat("x", 1<<20))
	is(t, "many more", line(len(s), int(e)), "0 23")
}

// the four bytes of a check
func low(n uint32) []byte { return []byte{byte(n), byte(n >> 8), byte(n >> 16), byte(n >> 24)} }

func TestP52Arguments(t *testing.T) {
	off := disk.New(10)
	off.Arm(0)
	off.Sync("a")
	off.Write("a", "b")
	is(t, "off", off.On(), false)
	for _, c := range []struct {
		what string
		d    *disk.Disk
		from int
		want string
	}{
		{"nil", nil, 0, "1"},
		{"nil, below 0", nil, -1, "1"},
		{"below 0", disk.New(10), -1, "1"},
		{"far below 0", disk.New(10), math.MinInt, "1"},
		{"below 0, no power", off, -1, "1"},
		{"no power", off, 0, "13"},
		{"a zero disk", &disk.Disk{}, 0, "13"},
		{"empty", disk.New(0), 0, "0 last 0 firm 0"},
		{"empty, from 7", disk.New(0), 7, "0 last 7 firm 7"},
		{"empty, from far", disk.New(0), math.MaxInt, fmt.Sprint("0 last ", math.MaxInt, " firm ", math.MaxInt)},
	} {
		is(t, c.what, told(Open(c.d, c.from)), c.want)
	}
}

func TestP52Segments(t *testing.T) {
	a, b, c := rec(1, "a"), rec(2, "b"), rec(3, "c")
	far := rec(math.MaxInt, "z")
	for _, c := range []struct {
		what string
		d    *disk.Disk
		from int
		want string
	}{
		{"one", with(1, a+b), 0, "0 1=a 2=b last 2 firm 2"},
		{"of another number", with(7, a+b), 0, "0 1=a 2=b last 2 firm 2"},
		{"the greatest number", with(99999999, a+b), 0, "0 1=a 2=b last 2 firm 2"},
		{"three", with(9, a, b, c), 1, "0 2=b 3=c last 3 firm 3"},
		{"all are known", with(1, a, b, c), 3, "0 last 3 firm 3"},
		{"one more is known", with(1, a, b, c), 4, "24"},
		{"goes on", with(4, c), 2, "0 3=c last 3 firm 3"},
		{"one is missing", with(4, c), 1, "24"},
		{"goes on far", with(1, far), math.MaxInt - 1, fmt.Sprint("0 ", math.MaxInt, "=z last ", math.MaxInt, " firm ", math.MaxInt)},
		{"is known far", with(1, far), math.MaxInt, fmt.Sprint("0 last ", math.MaxInt, " firm ", math.MaxInt)},
		{"far off", with(1, far), 0, "24"},
		{"behind the greatest", with(1, far+rec(math.MinInt, "")), math.MaxInt, "24"},
		{"number 0", with(1, rec(0, "a")), 0, "24"},
		{"number 0, then 1", with(1, rec(0, "a")+a), 0, "24"},
		{"below 0", with(1, rec(-1, "a")), 0, "24"},
		{"the same again", with(1, a+a), 0, "24"},
		{"a gap of records", with(1, a+c), 0, "24"},
		{"a gap across segments", with(1, a, c), 0, "24"},
		{"falling", with(1, b+a), 0, "24"},
		{"an empty segment", with(1, ""), 5, "0 last 5 firm 5"},
		{"empty ones between", with(1, "", a, "", b, ""), 0, "0 1=a 2=b last 2 firm 2"},
		{"empty data", with(1, rec(1, "")+rec(2, "\x00")), 0, "0 1= 2=\x00 last 2 firm 2"},
	} {
		before := files(c.d)
		is(t, c.what, told(Open(c.d, c.from)), c.want)
		is(t, c.what+": the disk", files(c.d), before)
	}
}

func TestP52Gap(t *testing.T) {
	d := with(1, rec(1, "a"))
	put(d, "wal-00000003", rec(2, "b"))
	is(t, "3 behind 1", told(Open(d, 0)), "24")
	put(d, "wal-00000002", "")
	is(t, "2 between", told(Open(d, 0)), "0 1=a 2=b last 2 firm 2")
}

func TestP52Others(t *testing.T) {
	d := with(5, rec(1, "a"))
	for _, name := range []string{"wal-00000000", "wal-1", "wal-0000004", "wal-000000006", "wal-0000000a", "wal-", "wal_00000006", "wa-00000006", "xwal-00000006", "wal--0000006", "wal-00000006.", "wal-00000-06", "wal-00000_06", "log"} {
		put(d, name, "nothing of it")
	}
	l, n := open(t, d, 0)
	is(t, "passed over", line(l.Last(), l.number()), "1 5")
	l.Append("b")
	is(t, "goes on behind it", n.since(), "Write 5 21")
	is(t, "Trim", line(int(l.Sync()), int(l.Trim(2)), n.since()), "0 0 Sync 5")
}

func TestP52Broken(t *testing.T) {
	a, b := rec(1, "a"), rec(2, "b")
	frame := func(body string) string {
		s, _ := codec.Frame(body)
		return s
	}
	bodyOf := func(s string) string { return s[8:] }
	long := "\x01\x00\x01\x00" + strings.Repeat("x", 4) // of 65537 bytes
	for what, s := range map[string]string{
		"the body turned":      a + turned(b, len(b)-1),
		"the number turned":    turned(a, 8) + b,
		"the check turned":     a + turned(b, 4),
		"the first one turned": turned(a, 7) + b,
		"too long":             a + long,
		"no body":              a + frame(""),
		"a body too short":     a + frame("\x02"),
		"a text too short":     a + frame(bodyOf(b)[:12]),
		"a body too long":      a + frame(bodyOf(b)+"x"),
	} {
		for _, d := range []*disk.Disk{with(1, s), with(1, s, ""), with(1, s, rec(3, "c"))} {
			before, steps := files(d), d.Steps()
			is(t, what, told(Open(d, 0)), "24")
			is(t, what+": the disk", line(files(d), d.Steps()), line(before, steps))
		}
	}
}

func TestP52Torn(t *testing.T) {
	a, b, c := rec(1, "a"), rec(2, "bb"), rec(3, "c")
	for cut := range len(b) {
		d := with(3, a+b[:cut])
		is(t, fmt.Sprint("cut at ", cut), told(Open(d, 0)), "0 1=a last 1 firm 1")
		is(t, fmt.Sprint("cut at ", cut, ": the disk"), files(d), "wal-00000003 21")
		d = with(3, a, b[:cut])
		is(t, fmt.Sprint("alone, cut at ", cut), told(Open(d, 1)), "0 last 1 firm 1")
		is(t, fmt.Sprint("alone, cut at ", cut, ": the disk"), files(d), "wal-00000003 21, wal-00000004 0")
		l, _ := open(t, d, 1)
		is(t, "goes on", num(l.Append("x"))+" "+told(Open(d, 0)), "0:2 0 1=a 2=x last 2 firm 2")
		want := "24"
		if cut == 0 {
			want = "0 1=a last 1 firm 1"
		}
		d = with(3, a+b[:cut], "")
		is(t, fmt.Sprint("not the last, cut at ", cut), told(Open(d, 0)), want)
		is(t, fmt.Sprint("not the last, cut at ", cut, ": the disk"), files(d), fmt.Sprint("wal-00000003 ", 21+cut, ", wal-00000004 0"))
	}
	d := with(3, a+b[:9], c)
	is(t, "not the last, and another one", told(Open(d, 0)), "24")
	d = with(1, a+b[:9])
	is(t, "torn, and below from", told(Open(d, 2)), "24")
	is(t, "not cut", files(d), "wal-00000001 30")
	d = with(1, b+c[:9])
	is(t, "torn, and above from", told(Open(d, 0)), "24")
	is(t, "not cut", files(d), "wal-00000001 31")
}

func TestP52Steps(t *testing.T) {
	for _, c := range []struct {
		what  string
		d     *disk.Disk
		steps int
	}{
		{"none", disk.New(10), 0},
		{"whole", with(1, rec(1, "a"), rec(2, "b")), 2},
		{"torn", with(1, rec(1, "a"), rec(2, "b")[:5]), 3},
		{"empty", with(1, ""), 2},
	} {
		before := c.d.Steps()
		_, _, e := Open(c.d.Copy(), 0)
		is(t, c.what, e, api.OK)
		for arm := range c.steps + 1 {
			d := c.d.Copy()
			d.Arm(arm)
			want := "0"
			if arm < c.steps {
				want = "13"
			}
			s := told(Open(d, 0))
			is(t, line(c.what, ", the power goes in step ", arm), strings.Fields(s)[0], want)
			if want == "13" {
				is(t, "nothing beside the error", s, "13")
			}
			is(t, line(c.what, ", steps"), d.Steps()-before, min(arm+1, c.steps))
		}
	}
}

// Open makes what it tells firm, whoever wrote it.
func TestP52Firm(t *testing.T) {
	d := disk.New(1000)
	d.Write("wal-00000001", rec(1, "a")+rec(2, "b")+"torn")
	is(t, "Open", told(Open(d, 0)), "0 1=a 2=b last 2 firm 2")
	d.Crash(nil)
	is(t, "behind a crash", told(Open(d, 0)), "0 1=a 2=b last 2 firm 2")
	is(t, "the disk", files(d), "wal-00000001 42")
}

func TestP52Answers(t *testing.T) {
	d := with(1, rec(1, "a")+rec(2, "b"))
	_, rs, _ := Open(d, 0)
	_, again, _ := Open(d, 0)
	rs[0].Data = "other"
	rs = append(rs[:1], api.Record{Seq: 9})
	is(t, "apart", again, "[{1 a} {2 b}]")
	is(t, "once more", told(Open(d, 0)), "0 1=a 2=b last 2 firm 2")
}

func TestP53Appended(t *testing.T) {
	d := disk.New(100000)
	l, n := open(t, d, 6)
	is(t, "first", num(l.Append("a")), "0:7")
	is(t, "calls", n.since(), "Write 1 21")
	is(t, "second", num(l.Append("bc")), "0:8")
	is(t, "calls", n.since(), "Write 1 22")
	is(t, "firm", line(l.Last(), l.Firm()), "8 6")
	data, _ := d.Read("wal-00000001")
	is(t, "bytes", data == rec(7, "a")+rec(8, "bc"), true)
}

func TestP53TooLong(t *testing.T) {
	d := disk.New(api.MaxDisk)
	l, n := open(t, d, 0)
	is(t, "too long", num(l.Append(strings.Repeat("x", 65525))), "23:0")
	is(t, "nothing", line(n.since(), l.Last(), l.Broken(), l.number()), "- 0 false 0")
	is(t, "the longest", num(l.Append(strings.Repeat("x", 65524))), "0:1")
	is(t, "calls", n.since(), "Write 1 65544")
	is(t, "too long for a new one", num(l.Append(strings.Repeat("x", 65525))), "23:0")
	is(t, "nothing", line(n.since(), l.Last(), l.Broken(), l.number()), "- 1 false 1")
}

func TestP53Full(t *testing.T) {
	for _, c := range []struct {
		size int // of the first record
		want string
	}{
		{4095, "Write 1 4095, Write 1 21"},
		{4096, "Write 1 4096, Sync 1, Write 2 21"},
		{4097, "Write 1 4097, Sync 1, Write 2 21"},
		{9999, "Write 1 9999, Sync 1, Write 2 21"},
	} {
		l, n := open(t, disk.New(100000), 0)
		l.Append(strings.Repeat("x", c.size-20))
		l.Append("y")
		is(t, fmt.Sprint("of ", c.size), n.since(), c.want)
		is(t, "firm", line(l.Last(), l.Firm()), "2 0")
	}
	l, n := open(t, disk.New(100000), 0)
	l.Append(strings.Repeat("x", 4000))
	l.Append(strings.Repeat("x", 56))
	l.Append("y")
	is(t, "of two", n.since(), "Write 1 4020, Write 1 76, Sync 1, Write 2 21")
	l, n = open(t, disk.New(100000), 0)
	l.Append(strings.Repeat("x", 5000))
	l.Sync()
	l.Append("y")
	is(t, "synced already", n.since(), "Write 1 5020, Sync 1, Settle, Write 2 21")
}

func TestP53FullBehindOpen(t *testing.T) {
	long := rec(1, strings.Repeat("x", 4096-20))
	l, n := open(t, with(4, long), 0)
	l.Append("y")
	is(t, "full", n.since(), "Write 5 21")
	l, n = open(t, with(4, long[:4095]), 0)
	is(t, "cut", num(l.Append("y")), "0:1")
	is(t, "calls", n.since(), "Write 4 21")
	l, n = open(t, with(4, long, rec(2, "a")), 0)
	is(t, "the last one isn't", num(l.Append("y")), "0:3")
	is(t, "calls", n.since(), "Write 5 21")
	l, n = open(t, with(4, rec(1, strings.Repeat("x", 4000))+rec(2, strings.Repeat("x", 90))[:100]), 0)
	is(t, "cut to less", num(l.Append("y")), "0:2")
	is(t, "calls", n.since(), "Write 4 21")
	l, n = open(t, with(4, rec(1, strings.Repeat("x", 4076))+"torn"), 0)
	is(t, "cut to just as much", num(l.Append("y")), "0:2")
	is(t, "calls", n.since(), "Write 5 21")
}

func TestP53NoRoom(t *testing.T) {
	d := disk.New(40)
	l, n := open(t, d, 0)
	is(t, "the first", num(l.Append("twentyone bytes and more")), "12:0")
	is(t, "a", num(l.Append("a")), "0:1")
	is(t, "calls", n.since(), "Write 1 44!12, Write 1 21")
	is(t, "no room", num(l.Append("b")), "12:0")
	is(t, "nothing", line(l.Last(), l.Firm(), l.Broken(), files(d)), "1 0 false wal-00000001 21")
	is(t, "Sync", line(int(l.Sync()), l.Firm()), "0 1")
	d.Limit(100)
	is(t, "room again", num(l.Append("b")), "0:2")
	is(t, "calls", n.since(), "Write 1 21!12, Sync 1, Settle, Write 1 21")
	is(t, "there", told(Open(d, 0)), "0 1=a 2=b last 2 firm 2")
}

func TestP53NoRoomForNewOne(t *testing.T) {
	d := disk.New(5030)
	l, n := open(t, d, 0)
	l.Append(strings.Repeat("x", 5000))
	is(t, "no room", num(l.Append("b")), "12:0")
	is(t, "again", num(l.Append("c")), "12:0")
	is(t, "calls", n.since(), "Write 1 5020, Sync 1, Write 2 21!12, Write 2 21!12")
	is(t, "nothing", line(l.Last(), l.Firm(), l.Broken(), files(d)), "1 0 false wal-00000001 5020")
	is(t, "Sync settles the first one's name", line(int(l.Sync()), l.Firm(), n.since()), "0 1 Settle")
	is(t, "Sync again", line(int(l.Sync()), n.since()), "0 -")
	d.Limit(6000)
	is(t, "room again", num(l.Append("d")), "0:2")
	is(t, "calls", n.since(), "Write 2 21")
	is(t, "there", strings.Fields(told(Open(d, 0)))[2], "2=d")
}

// A segment without a file is none: behind a lack of room the last one is the full one, and stays.
func TestP53NoRoomAndTrim(t *testing.T) {
	d := disk.New(5030)
	l, n := open(t, d, 0)
	l.Append(strings.Repeat("x", 5000))
	is(t, "no room", num(l.Append("b")), "12:0")
	is(t, "its name isn't settled", line(int(l.Trim(0)), int(l.Trim(1)), n.since()), "0 1 Write 1 5020, Sync 1, Write 2 21!12")
	is(t, "Sync", line(int(l.Sync()), n.since()), "0 Settle")
	is(t, "Trim", line(int(l.Trim(1)), int(l.Trim(1)), n.since(), files(d)), "0 0 - wal-00000001 5020")
	is(t, "told", line(l.Last(), l.Firm(), l.Broken()), "1 1 false")
	is(t, "there", told(Open(d.Copy(), 1)), "0 last 1 firm 1")
	is(t, "no room still", num(l.Append("b")), "12:0")
	is(t, "Trim again", line(int(l.Trim(1)), n.since()), "0 Write 2 21!12")
	d.Limit(6000)
	is(t, "room again", line(num(l.Append("b")), n.since()), "0:2 Write 2 21")
	is(t, "Trim behind it", line(int(l.Trim(1)), n.since(), files(d)), "0 Remove 1, Settle wal-00000002 21")
	is(t, "Sync behind it", line(int(l.Sync()), n.since()), "0 Sync 2")
	is(t, "there", told(Open(d, 1)), "0 2=b last 2 firm 2")
}

// So it is with segments ahead, with one that Open found, and where there are too many files.
func TestP54NoRoomAndTrim(t *testing.T) {
	long := strings.Repeat("x", 5000)
	d := disk.New(15070)
	l, n := open(t, d, 0)
	for range 3 {
		l.Append(long)
	}
	is(t, "no room", line(num(l.Append("y")), int(l.Sync())), "12:0 0")
	n.since()
	is(t, "Trim", line(int(l.Trim(3)), n.since()), "0 Remove 1, Remove 2, Settle")
	is(t, "makes room", line(num(l.Append("y")), n.since()), "0:4 Write 4 21")
	is(t, "Trim again", line(int(l.Trim(3)), n.since(), files(d)), "0 Remove 3, Settle wal-00000004 21")

	d = with(7, rec(1, long), rec(2, long))
	l, n = open(t, d, 1)
	d.Limit(0)
	is(t, "no room behind Open", line(num(l.Append("y")), n.since()), "12:0 Write 9 21!12")
	is(t, "Trim behind Open", line(int(l.Trim(2)), n.since(), files(d)), "0 Remove 7, Settle wal-00000008 5020")
	is(t, "there", told(Open(d, 2)), "0 last 2 firm 2")

	d = with(1, rec(1, long))
	for i := range api.MaxFiles - 1 {
		put(d, fmt.Sprint("f", i), "")
	}
	l, n = open(t, d, 0)
	is(t, "too many files", line(num(l.Append("y")), n.since()), "12:0 Write 2 21!12")
	is(t, "Trim with too many", line(int(l.Trim(1)), n.since()), "0 -")
	d.Remove("f0")
	is(t, "one less", line(num(l.Append("y")), int(l.Trim(1)), n.since()), "0:2 0 Write 2 21, Remove 1, Settle")
}

// Where there is no segment at all, none comes to be without room.
func TestP54NoRoomAndNoSegment(t *testing.T) {
	d := disk.New(20)
	l, n := open(t, d, 3)
	is(t, "no room", line(num(l.Append("y")), n.since()), "12:0 Write 1 21!12")
	is(t, "nothing", line(int(l.Sync()), int(l.Trim(3)), l.Last(), l.Firm(), n.since()), "0 0 3 3 -")
	d.Limit(21)
	is(t, "room", line(num(l.Append("y")), int(l.Trim(3)), files(d)), "0:4 0 wal-00000001 21")
}

func TestP53TooManyFiles(t *testing.T) {
	d := disk.New(10000)
	for i := range api.MaxFiles {
		put(d, fmt.Sprint("f", i), "")
	}
	l, _ := open(t, d, 0)
	is(t, "too many", num(l.Append("a")), "12:0")
	d.Remove("f0")
	is(t, "one less", line(num(l.Append("a")), l.Broken()), "0:1 false")
}

func TestP53NoNumber(t *testing.T) {
	l, n := open(t, disk.New(1000), math.MaxInt)
	is(t, "no record", num(l.Append("a")), "23:0")
	is(t, "nothing", line(n.since(), l.Last() == math.MaxInt, l.Broken(), int(l.Sync())), "- true false 0")
	l, n = open(t, disk.New(1000), math.MaxInt-1)
	is(t, "the last record", num(l.Append("a")), fmt.Sprint("0:", math.MaxInt))
	l, n = open(t, with(99999999, rec(1, strings.Repeat("x", 5000))), 0)
	is(t, "no segment", num(l.Append("a")), "10:0")
	is(t, "broken", line(n.since(), l.Broken(), l.Last(), int(l.Sync())), "Write  21!10 true 1 10")
}

func TestP54Synced(t *testing.T) {
	d := disk.New(100000)
	l, n := open(t, d, 0)
	is(t, "nothing", line(int(l.Sync()), l.Firm(), n.since()), "0 0 -")
	l.Append("a")
	is(t, "a", line(int(l.Sync()), l.Firm(), n.since()), "0 1 Write 1 21, Sync 1, Settle")
	is(t, "again", line(int(l.Sync()), l.Firm(), n.since()), "0 1 -")
	l.Append("b")
	is(t, "its name is settled", line(int(l.Sync()), l.Firm(), n.since()), "0 2 Write 1 21, Sync 1")
	l.Append(strings.Repeat("x", 5000))
	l.Append("d")
	is(t, "a new one", line(l.Firm(), n.since()), "2 Write 1 5020, Sync 1, Write 2 21")
	is(t, "its name", line(int(l.Sync()), l.Firm(), n.since()), "0 4 Sync 2, Settle")
	l, n = open(t, d, 0)
	is(t, "behind Open", line(int(l.Sync()), l.Firm(), n.since()), "0 4 -")
	l.Append("e")
	is(t, "the name was settled by Open", line(int(l.Sync()), l.Firm(), n.since()), "0 5 Write 2 21, Sync 2")
}

// a log of five segments, of records 1 and 2, 3, 4, 5, and 6
func five(t *testing.T) (*disk.Disk, *Log, *notes) {
	t.Helper()
	d := disk.New(100000)
	l, n := open(t, d, 0)
	l.Append("a")
	for range 4 {
		l.Append(strings.Repeat("x", 5000))
	}
	l.Append("z")
	is(t, "Sync", l.Sync(), api.OK)
	n.since()
	return d, l, n
}

func TestP54Trimmed(t *testing.T) {
	for _, c := range []struct {
		upto int
		want string
	}{
		{math.MinInt, "0 -"}, {-1, "0 -"}, {0, "0 -"}, {1, "0 -"},
		{2, "0 Remove 1, Settle"},
		{3, "0 Remove 1, Remove 2, Settle"},
		{5, "0 Remove 1, Remove 2, Remove 3, Remove 4, Settle"},
		{6, "0 Remove 1, Remove 2, Remove 3, Remove 4, Settle"},
		{7, "1 -"}, {math.MaxInt, "1 -"},
	} {
		d, l, n := five(t)
		is(t, fmt.Sprint("Trim ", c.upto), line(int(l.Trim(c.upto)), n.since()), c.want)
		is(t, "the log", line(l.Last(), l.Firm(), l.Broken()), "6 6 false")
		if c.upto >= 0 && c.upto <= 6 {
			s := told(Open(d, c.upto))
			is(t, "told from there", line(strings.HasPrefix(s, "0 "), strings.Count(s, "=")), line(true, 6-c.upto))
		}
	}
	_, l, n := five(t)
	is(t, "bit by bit", line(int(l.Trim(2)), int(l.Trim(2)), int(l.Trim(4)), n.since()), "0 0 0 Remove 1, Settle, Remove 2, Remove 3, Settle")
	is(t, "goes on", num(l.Append("y")), "0:7")
	is(t, "not firm", l.Trim(7), api.ErrArg)
	is(t, "not broken", line(l.Broken(), int(l.Sync()), int(l.Trim(7))), "false 0 0")
}

func TestP54TrimmedBehindOpen(t *testing.T) {
	d, _, _ := five(t)
	l, n := open(t, d, 0)
	is(t, "Trim", line(int(l.Trim(4)), n.since()), "0 Remove 1, Remove 2, Remove 3, Settle")
	l, n = open(t, with(3, "", rec(1, "a"), "", rec(2, "b")), 0)
	is(t, "empty ones count as 0", line(int(l.Trim(-1)), int(l.Trim(0)), n.since()), "0 0 Remove 3, Remove 5, Settle")
	l, n = open(t, with(3, "", ""), 7)
	is(t, "the last one stays", line(int(l.Trim(7)), n.since()), "0 Remove 3, Settle")
}

// Trim settles all names: Sync has none to settle behind it.
func TestP54TrimSettles(t *testing.T) {
	l, n := open(t, disk.New(100000), 0)
	l.Append(strings.Repeat("x", 5000))
	l.Sync()
	l.Append("b")
	n.since()
	is(t, "Trim", line(int(l.Trim(1)), n.since()), "0 Remove 1, Settle")
	is(t, "firm", l.Firm(), 1)
	is(t, "Sync", line(int(l.Sync()), n.since(), l.Firm()), "0 Sync 2 2")
}

func TestP55Broken(t *testing.T) {
	// the power goes in the how-manyth step: what is told up to there
	for _, c := range []struct {
		arm  int
		want string
	}{
		{0, "Append 13"},
		{1, "Append, Append 13"},
		{2, "Append, Append, Sync 13"},
		{3, "Append, Append, Sync 13"},
		{4, "Append, Append, Sync, Append 13"},
		{5, "Append, Append, Sync, Append, Append 13"},
		{6, "Append, Append, Sync, Append, Append 13"},
		{7, "Append, Append, Sync, Append, Append, Trim 13"},
		{8, "Append, Append, Sync, Append, Append, Trim 13"},
		{9, "Append, Append, Sync, Append, Append, Trim"},
	} {
		d := disk.New(100000)
		l, n := open(t, d, 0)
		d.Arm(c.arm)
		is(t, fmt.Sprint("armed ", c.arm), play(l), c.want)
		is(t, "broken", l.Broken(), strings.HasSuffix(c.want, "13"))
		if !l.Broken() {
			continue
		}
		last, firm := l.Last(), l.Firm()
		n.since()
		d.Crash([]int{9, 9, 9, 9})
		_, e := l.Append(strings.Repeat("x", 70000))
		is(t, "the same error, also with power", line(num(l.Append("a")), int(e), int(l.Sync()), int(l.Trim(math.MaxInt)), int(l.Trim(0)), n.since()), "13:0 13 13 13 13 -")
		is(t, "told", line(l.Last(), l.Firm(), l.Broken()), line(last, firm, true))
	}
}

// calls some of a log, up to an error
func play(l *Log) string {
	s := []string{}
	call := func(what string, e api.Errno) bool {
		if e != api.OK {
			what += fmt.Sprint(" ", int(e))
		}
		s = append(s, what)
		return e == api.OK
	}
	add := func(data string) api.Errno {
		_, e := l.Append(data)
		return e
	}
	long := strings.Repeat("x", 5000)
	_ = call("Append", add("a")) && call("Append", add(long)) && call("Sync", l.Sync()) && call("Append", add(long)) && call("Append", add("d")) && call("Trim", l.Trim(2))
	return strings.Join(s, ", ")
}

// A call that fails leaves the numbers as they were.
func TestP55Numbers(t *testing.T) {
	d := disk.New(100000)
	l, _ := open(t, d, 0)
	l.Append("a")
	l.Sync()
	l.Append("b")
	d.Arm(0)
	is(t, "Sync", l.Sync(), api.ErrPower)
	is(t, "told", line(l.Last(), l.Firm(), l.Broken()), "2 1 true")
	d = disk.New(100000)
	l, _ = open(t, d, 0)
	l.Append("a")
	d.Arm(1)
	is(t, "Sync, in its Settle", l.Sync(), api.ErrPower)
	is(t, "told", line(l.Last(), l.Firm(), l.Broken()), "1 0 true")
	d = disk.New(100000)
	l, _ = open(t, d, 4)
	d.Arm(0)
	is(t, "Append", num(l.Append("a")), "13:0")
	is(t, "told", line(l.Last(), l.Firm(), l.Broken()), "4 4 true")
}

// Errors of the disk other than the power's break a log, too.
func TestP55OtherErrors(t *testing.T) {
	d := disk.New(100000)
	l, _ := open(t, d, 0)
	l.Append("a")
	d.Remove("wal-00000001")
	is(t, "Sync", line(int(l.Sync()), l.Broken(), num(l.Append("b")), int(l.Trim(0)), int(l.Trim(9))), "11 true 11:0 11 11")
	d = disk.New(100000)
	l, n := open(t, d, 0)
	l.Append(strings.Repeat("x", 5000))
	d.Remove("wal-00000001")
	is(t, "Append", line(num(l.Append("b")), n.since(), l.Broken(), l.Last()), "11:0 Write 1 5020, Sync 1!11 true 1")
	d, l, _ = five(t)
	d.Remove("wal-00000002")
	is(t, "Trim", line(int(l.Trim(4)), l.Broken(), int(l.Sync()), l.Last(), l.Firm()), "11 true 11 6 6")
	is(t, "the disk", files(d), "wal-00000003 5020, wal-00000004 5020, wal-00000005 21")
}

func TestNoLog(t *testing.T) {
	for _, l := range []*Log{nil, {}} {
		is(t, "no log", line(num(l.Append("a")), int(l.Sync()), int(l.Trim(0)), int(l.Trim(5)), l.Last(), l.Firm(), l.Broken()), "1:0 1 1 1 0 0 false")
		is(t, "too long", num(l.Append(strings.Repeat("x", 70000))), "1:0")
	}
}

// cause passes on what was given up with; a fault of the program's own is not an answer.
func TestCause(t *testing.T) {
	is(t, "an error", cause(api.ErrNone), api.ErrNone)
	defer func() { is(t, "another thing", recover(), "oh") }()
	cause("oh")
}
