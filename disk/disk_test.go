package disk

import (
	"fmt"
	"math"
	"strings"
	"testing"

	"caisson/api"
)

func is(t *testing.T, what string, got, want any) {
	t.Helper()
	if g, w := fmt.Sprint(got), fmt.Sprint(want); g != w {
		t.Errorf("%s: %s, want %s", what, g, w)
	}
}

// all that can be seen of a disk
func all(d *Disk) string {
	s := fmt.Sprint(d.On(), d.Used(), d.Room(), d.Steps())
	for _, name := range d.List() {
		data, e := d.Read(name)
		s += fmt.Sprintf(" %s=%s", name, data)
		if e != api.OK {
			s += e.Error()
		}
	}
	return s
}

// the files of a disk behind a crash, which is tried on a copy
func crashed(d *Disk, picks ...int) string {
	c := d.Copy()
	c.Crash(picks)
	return files(c)
}

func files(d *Disk) string {
	s := []string{}
	for _, name := range d.List() {
		data, _ := d.Read(name)
		s = append(s, name+"="+data)
	}
	return strings.Join(s, " ")
}

// a disk with a file old, whose first three bytes are firm, as its name is
func made(t *testing.T) *Disk {
	t.Helper()
	d := New(100)
	is(t, "Write", d.Write("old", "abc"), api.OK)
	is(t, "Sync", d.Sync("old"), api.OK)
	is(t, "Settle", d.Settle(), api.OK)
	is(t, "Write", d.Write("old", "xyz"), api.OK)
	return d
}

// each call that may be a step, with one name; there: whether it asks for a file that is there
var calls = []struct {
	what  string
	there bool
	call  func(d *Disk, name string) api.Errno
}{
	{"Write", false, func(d *Disk, name string) api.Errno { return d.Write(name, "+") }},
	{"Cut", true, func(d *Disk, name string) api.Errno { return d.Cut(name, 1) }},
	{"Sync", true, func(d *Disk, name string) api.Errno { return d.Sync(name) }},
	{"Rename from", true, func(d *Disk, name string) api.Errno { return d.Rename(name, "new") }},
	{"Remove", true, func(d *Disk, name string) api.Errno { return d.Remove(name) }},
}

var rooms = []struct{ room, want int }{
	{math.MinInt, 0}, {-1, 0}, {0, 0}, {1, 1}, {10, 10},
	{api.MaxDisk - 1, api.MaxDisk - 1}, {api.MaxDisk, api.MaxDisk},
	{api.MaxDisk + 1, api.MaxDisk}, {math.MaxInt, api.MaxDisk},
}

func TestP11New(t *testing.T) {
	for _, r := range rooms {
		d := New(r.room)
		if d == nil {
			t.Fatal("New is nil")
		}
		is(t, fmt.Sprint("New of ", r.room), all(d), fmt.Sprint(true, 0, r.want, 0))
		is(t, "no names", len(d.List()), 0)
		is(t, "nothing comes back", crashed(d, 1, 1), "")
	}
}

func TestP11Limit(t *testing.T) {
	for _, r := range rooms {
		d := New(5)
		d.Limit(r.room)
		is(t, fmt.Sprint("Limit of ", r.room), all(d), fmt.Sprint(true, 0, r.want, 0))
	}
	d := New(10)
	d.Write("a", "0123456789")
	d.Limit(9)
	is(t, "more than there is room for", all(d), "true 10 9 1 a=0123456789")
	is(t, "not even nothing is written", d.Write("a", ""), api.ErrFull)
	is(t, "nor a file made", d.Write("b", ""), api.ErrFull)
	d.Limit(11)
	is(t, "room again", d.Write("a", "x"), api.OK)
	d.Arm(0)
	d.Settle()
	d.Limit(3)
	is(t, "without power", d.Room(), 3)
}

func TestP12Write(t *testing.T) {
	d := New(10)
	is(t, "made", d.Write("a", "hello"), api.OK)
	is(t, "behind the end", d.Write("a", "!"), api.OK)
	is(t, "an empty file", d.Write("e", ""), api.OK)
	is(t, "one byte too many", d.Write("b", "12345"), api.ErrFull)
	is(t, "so it is as it was", all(d), "true 6 10 3 a=hello! e=")
	is(t, "the last byte", d.Write("b", "1234"), api.OK)
	is(t, "nothing more has room", d.Write("b", ""), api.OK)
	is(t, "full", d.Write("a", "x"), api.ErrFull)
	is(t, "other bytes than letters", d.Write("z", ""), api.OK)
	d.Limit(100)
	odd := "\x00\xff\n世"
	d.Write("z", odd)
	data, e := d.Read("z")
	is(t, "any bytes", fmt.Sprint(data == odd, e == api.OK), "true true")
}

func TestP12MaxFiles(t *testing.T) {
	d := New(1000)
	for i := range api.MaxFiles {
		is(t, "made", d.Write(fmt.Sprint("f", i), "x"), api.OK)
	}
	is(t, "one more", d.Write("more", ""), api.ErrFull)
	is(t, "one that is there", d.Write("f63", "y"), api.OK)
	d.Settle()
	is(t, "one less", d.Remove("f0"), api.OK)
	is(t, "in its place", d.Write("more", ""), api.OK)
	is(t, "how many", len(d.List()), api.MaxFiles)
	is(t, "and no more", d.Write("f0", ""), api.ErrFull)
}

func TestP12ErrorsInOrder(t *testing.T) {
	d := New(3)
	d.Write("a", "abc")
	is(t, "ErrFile ahead of ErrFull", d.Write("A", "x"), api.ErrFile)
	is(t, "ErrFile ahead of ErrNone", d.Cut("A", -1), api.ErrFile)
	is(t, "ErrNone ahead of ErrArg", d.Cut("b", -1), api.ErrNone)
	is(t, "ErrArg", fmt.Sprint(d.Cut("a", -1), d.Cut("a", 4), d.Cut("a", math.MinInt), d.Cut("a", math.MaxInt)), strings.TrimSpace(strings.Repeat(api.ErrArg.Error()+" ", 4)))
	is(t, "as it was", all(d), "true 3 3 1 a=abc")
	d.Arm(0)
	d.Settle()
	is(t, "ErrPower ahead of ErrFile", d.Write("A", "xyz"), api.ErrPower)
	is(t, "in Cut", d.Cut("", -1), api.ErrPower)
	is(t, "in Sync", d.Sync(""), api.ErrPower)
}

func TestP12Cut(t *testing.T) {
	d := made(t)
	is(t, "all of it", d.Cut("old", 6), api.OK)
	is(t, "nothing is gone", files(d), "old=abcxyz")
	is(t, "Cut", d.Cut("old", 5), api.OK)
	is(t, "at once", files(d), "old=abcxy")
	is(t, "the room too", d.Used(), 5)
	is(t, "the firm ones stay firm", crashed(d), "old=abc")
	is(t, "of the others there are two", crashed(d, 0, 2), "old=abcxy")
	is(t, "none goes round to three", crashed(d, 0, 3), "old=abc")
	d.Cut("old", 2)
	is(t, "firm ones are gone at once", crashed(d, 0, 5), "old=ab")
	d.Write("old", "CD")
	is(t, "what comes then is not firm", crashed(d, 0, 0), "old=ab")
	is(t, "but may stay", crashed(d, 0, 1), "old=abC")
	d.Cut("old", 0)
	is(t, "nothing is left", all(d), "true 0 100 9 old=")
	is(t, "nor comes back", crashed(d, 0, 5), "old=")
}

func TestP12Sync(t *testing.T) {
	d := made(t)
	d.Write("other", "q")
	is(t, "not firm yet", crashed(d, 1), "old=abc other=")
	is(t, "Sync", d.Sync("old"), api.OK)
	is(t, "this file's bytes are", crashed(d, 1), "old=abcxyz other=")
	is(t, "a name is not settled by it", d.Sync("other"), api.OK)
	is(t, "so it is gone", crashed(d), "old=abcxyz")
	is(t, "of none", d.Sync("none"), api.ErrNone)
}

func TestP13FileNames(t *testing.T) {
	right := []string{"a", "z", "0", "9", ".", "-", "_", "..", "log-0001.seg_x", strings.Repeat("x", api.MaxFile)}
	wrong := []string{"", "A", "Z", "a b", "a/b", "a\x00", "ä", "\xff", "a\n", "`", "{", "/", ":", ",", "^", strings.Repeat("x", api.MaxFile+1), strings.Repeat("x", 1<<16)}
	for _, name := range right {
		d := New(10)
		is(t, name, d.Write(name, "x"), api.OK)
		is(t, name, d.List(), []string{name})
	}
	for _, name := range wrong {
		d := made(t)
		before := all(d)
		for _, c := range calls {
			is(t, fmt.Sprintf("%s of %.40q", c.what, name), c.call(d, name), api.ErrFile)
		}
		is(t, "Rename to", d.Rename("old", name), api.ErrFile)
		is(t, "both", d.Rename(name, name), api.ErrFile)
		is(t, "ErrFile ahead of ErrNone", d.Rename("none", name), api.ErrFile)
		data, e := d.Read(name)
		is(t, "Read", fmt.Sprint(data, int(e)), "10")
		is(t, "as it was", all(d), before)
	}
}

func TestP13Rename(t *testing.T) {
	d := made(t)
	is(t, "Rename", d.Rename("old", "new"), api.OK)
	is(t, "the bytes go with it", files(d), "new=abcxyz")
	is(t, "loose", crashed(d, 0, 3), "old=abcxyz")
	is(t, "firm bytes stay firm", crashed(d, 1, 1), "new=abcx")
	d.Sync("new")
	is(t, "it is the same file under the firm name", crashed(d, 0), "old=abcxyz")
	d.Settle()
	is(t, "settled", crashed(d), "new=abcxyz")
	is(t, "none", d.Rename("old", "new"), api.ErrNone)
	is(t, "none onto itself", d.Rename("old", "old"), api.ErrNone)
}

func TestP13RenameOntoAnother(t *testing.T) {
	d := made(t)
	d.Sync("old")
	d.Write("new", "NEW")
	d.Sync("new")
	d.Settle()
	is(t, "Rename", d.Rename("new", "old"), api.OK)
	is(t, "the other is gone", all(d), "true 3 100 9 old=NEW")
	is(t, "one change: none of it", crashed(d, 0), "new=NEW old=abcxyz")
	is(t, "one change: all of it", crashed(d, 1), "old=NEW")
	is(t, "one change: round again", crashed(d, 2), "new=NEW old=abcxyz")
}

func TestP13RenameOntoItself(t *testing.T) {
	d := made(t)
	is(t, "Rename", d.Rename("old", "old"), api.OK)
	is(t, "nothing but a step", all(d), "true 6 100 5 old=abcxyz")
	d.Remove("old")
	is(t, "no change of names", crashed(d, 1), "")
	is(t, "so there is one alone", crashed(d, 2), "old=abc")
}

func TestP13Remove(t *testing.T) {
	d := made(t)
	is(t, "Remove", d.Remove("old"), api.OK)
	is(t, "gone", all(d), "true 0 100 5")
	is(t, "none is left", d.Remove("old"), api.ErrNone)
	is(t, "Read", func() api.Errno { _, e := d.Read("old"); return e }(), api.ErrNone)
	is(t, "loose", crashed(d, 0, 2), "old=abcxy")
	d.Write("old", "another")
	d.Sync("old")
	is(t, "the old one", crashed(d, 0, 0), "old=abc")
	is(t, "between", crashed(d, 1), "")
	is(t, "the new one", crashed(d, 2), "old=another")
	d.Settle()
	is(t, "settled", crashed(d, 0), "old=another")
}

func TestP13Settle(t *testing.T) {
	d := New(100)
	d.Write("a", "aa")
	d.Write("b", "bb")
	is(t, "Settle", d.Settle(), api.OK)
	is(t, "names are firm, bytes are not", crashed(d), "a= b=")
	d.Write("c", "cc")
	is(t, "one is loose since", crashed(d, 1), "a= b= c=")
	is(t, "one alone", crashed(d, 2), "a= b=")
	d.Settle()
	is(t, "none is", crashed(d, 7, 1, 2, 1), "a=a b=bb c=c")
}

func TestP14Asked(t *testing.T) {
	d := New(100)
	for _, name := range []string{"b", "a", "ab", "a.b", "_", "0", "a-b", "z9"} {
		d.Write(name, name)
	}
	is(t, "rising", d.List(), "[0 _ a a-b a.b ab b z9]")
	is(t, "Used", d.Used(), 14)
	d.List()[0] = "changed"
	is(t, "the list is its owner's", d.List()[0], "0")
	before := d.Steps()
	d.Read("a")
	d.Read("none")
	d.Limit(50)
	d.Arm(7)
	d.Arm(-7)
	d.Crash(nil)
	is(t, "none of these is a step", d.Steps(), before)
}

func TestP14WithoutPower(t *testing.T) {
	d := made(t)
	d.Write("more", "+")
	d.Arm(0)
	is(t, "out", d.Remove("more"), api.ErrPower)
	is(t, "no names, all else as if", all(d), "false 6 100 6")
	data, e := d.Read("old")
	is(t, "Read", fmt.Sprint(data, int(e)), "13")
	data, e = d.Read("A")
	is(t, "ErrPower ahead of ErrFile", fmt.Sprint(data, int(e)), "13")
	for _, c := range calls {
		is(t, c.what, c.call(d, "old"), api.ErrPower)
	}
	is(t, "Settle", d.Settle(), api.ErrPower)
	is(t, "Rename", d.Rename("A", ""), api.ErrPower)
	is(t, "as it was", all(d), "false 6 100 6")
}

func TestP14Steps(t *testing.T) {
	d := New(10)
	for i, c := range []func() api.Errno{
		func() api.Errno { return d.Write("a", "abc") },
		func() api.Errno { return d.Write("a", "") },
		func() api.Errno { return d.Cut("a", 3) },
		func() api.Errno { return d.Sync("a") },
		func() api.Errno { return d.Settle() },
		func() api.Errno { return d.Rename("a", "b") },
		func() api.Errno { return d.Rename("b", "b") },
		func() api.Errno { return d.Remove("b") },
	} {
		is(t, "no error", c(), api.OK)
		is(t, "a step", d.Steps(), i+1)
	}
	d.Write("A", "")
	d.Write("a", "12345678901")
	d.Cut("a", 0)
	d.Rename("a", "b")
	is(t, "with an error it is none", d.Steps(), 8)
	d.Arm(0)
	d.Write("a", "x")
	is(t, "the power's end is one", d.Steps(), 9)
	d.Settle()
	is(t, "without power it is none", d.Steps(), 9)
	d.Crash(nil)
	is(t, "a crash leaves them", d.Steps(), 9)
}

func TestP15DoneOrNot(t *testing.T) {
	for _, c := range []struct {
		what  string
		call  func(d *Disk) api.Errno
		picks []int
		then  string
	}{
		{"a write is done", func(d *Disk) api.Errno { return d.Write("old", "+") }, []int{0, 4}, "old=abcxyz+"},
		{"a new file is made", func(d *Disk) api.Errno { return d.Write("new", "+") }, []int{1, 1}, "new=+ old=abc"},
		{"a rename is done", func(d *Disk) api.Errno { return d.Rename("old", "new") }, []int{1, 1}, "new=abcx"},
		{"a rename onto itself", func(d *Disk) api.Errno { return d.Rename("old", "old") }, []int{1, 1}, "old=abcx"},
		{"a removal is done", func(d *Disk) api.Errno { return d.Remove("old") }, []int{1}, ""},
		{"a cut is not", func(d *Disk) api.Errno { return d.Cut("old", 1) }, []int{0, 3}, "old=abcxyz"},
		{"a sync is not", func(d *Disk) api.Errno { return d.Sync("old") }, []int{0, 0}, "old=abc"},
	} {
		d := made(t)
		before := d.Steps()
		d.Arm(0)
		is(t, c.what, c.call(d), api.ErrPower)
		is(t, c.what, fmt.Sprint(d.On(), d.Steps()-before), "false 1")
		d.Crash(c.picks)
		is(t, c.what, files(d), c.then)
	}
	d := New(9)
	d.Write("a", "")
	d.Arm(0)
	is(t, "a settle is not done", d.Settle(), api.ErrPower)
	is(t, "so the name is loose", crashed(d, 0), "")
	is(t, "and may stay", crashed(d, 1), "a=")
}

func TestP15Arm(t *testing.T) {
	for n := range 5 {
		d := New(100)
		d.Arm(n)
		for range n {
			is(t, "a step more", d.Write("a", "x"), api.OK)
			is(t, "an error is none", d.Write("A", "x"), api.ErrFile)
			is(t, "nor is that", d.Sync("none"), api.ErrNone)
			d.Read("a")
		}
		is(t, "then it goes out", d.Write("a", "x"), api.ErrPower)
		is(t, "out", all(d), fmt.Sprint("false ", n+1, " 100 ", n+1))
		d.Crash(nil)
		for range 9 {
			is(t, "not armed any more", d.Write("a", "x"), api.OK)
		}
	}
	for _, n := range []int{-1, -2, math.MinInt} {
		d := New(100)
		d.Arm(1)
		d.Arm(n)
		is(t, "below 0", fmt.Sprint(int(d.Settle()), int(d.Settle()), int(d.Settle())), "0 0 0")
	}
	d := New(100)
	d.Arm(0)
	d.Arm(1)
	is(t, "armed again", fmt.Sprint(int(d.Settle()), int(d.Settle()), int(d.Settle())), "0 13 13")
	d = New(100)
	d.Arm(math.MaxInt)
	is(t, "far off", fmt.Sprint(int(d.Settle()), int(d.Settle()), d.On()), "0 0 true")
}

func TestP16NamesFirst(t *testing.T) {
	d := New(100)
	d.Write("old", "")
	d.Settle()
	d.Write("a", "")
	d.Rename("a", "b")
	d.Remove("old")
	d.Write("a", "")
	for i, want := range []string{"old=", "a= old=", "b= old=", "b=", "a= b="} {
		is(t, fmt.Sprint(i, " stay"), crashed(d, i), want)
		is(t, fmt.Sprint(i, " and five more"), crashed(d, i+5), want)
		is(t, fmt.Sprint(i, " from below"), crashed(d, -(i+1)), want)
	}
	is(t, "without picks", crashed(d), "old=")
	is(t, "the greatest", crashed(d, math.MaxInt), crashed(d, math.MaxInt%5))
	is(t, "the least is as the greatest", crashed(d, math.MinInt), crashed(d, math.MaxInt))
}

func TestP16ThenBytes(t *testing.T) {
	d := New(100)
	d.Write("firm", "1")
	d.Write("a", "a")
	d.Write("c", "c")
	d.Sync("firm")
	d.Sync("a")
	d.Settle()
	d.Write("c", "ccc")
	d.Write("a", "aa")
	is(t, "rising, the firm file takes no pick", crashed(d, 0, 1, 2), "a=aa c=cc firm=1")
	is(t, "modulo one more than there are", crashed(d, 9, 5, 6), "a=aaa c=c firm=1")
	is(t, "a pick for no loose name", crashed(d, 1, 2), "a=aaa c= firm=1")
	is(t, "below 0", crashed(d, -1, -2, -3), "a=aa c=cc firm=1")
	is(t, "none left", crashed(d, 0), "a=a c= firm=1")
	is(t, "nil", crashed(d), "a=a c= firm=1")
	is(t, "more than are used", crashed(d, 0, 2, 4, 7, 7, 7), "a=aaa c=cccc firm=1")
	d.Rename("c", "b")
	d.Remove("a")
	is(t, "the names that stay have the picks", crashed(d, 1, 1, 3), "a=aa b=ccc firm=1")
	is(t, "what is gone has none", crashed(d, 2, 3), "b=ccc firm=1")
}

func TestP16Behind(t *testing.T) {
	d := made(t)
	d.Write("new", "12")
	d.Arm(3)
	picks := []int{1, 1, 2}
	d.Crash(picks)
	is(t, "with power too", all(d), "true 6 100 5 new=1 old=abcxy")
	is(t, "the picks are as they were", picks, "[1 1 2]")
	is(t, "all is firm now", crashed(d, 1, 1, 1), "new=1 old=abcxy")
	for range 5 {
		is(t, "not armed", d.Settle(), api.OK)
	}
	d.Limit(7)
	d.Remove("old")
	d.Write("new", "23456")
	is(t, "full again", d.Used(), 6)
	d.Crash([]int{0, 5})
	is(t, "above the room", all(d), "true 11 7 12 new=123456 old=abcxy")
	is(t, "so nothing more", d.Write("new", ""), api.ErrFull)
}

func TestP16AgainAndAgain(t *testing.T) {
	d := New(100)
	d.Write("a", "1")
	d.Crash([]int{1, 1})
	d.Write("a", "2")
	d.Crash([]int{1, 1})
	is(t, "no name was loose", files(d), "a=12")
	d.Remove("a")
	d.Crash([]int{0})
	is(t, "back", files(d), "a=12")
	d.Remove("a")
	d.Crash([]int{1})
	is(t, "gone", files(d), "")
	d.Write("a", "3")
	d.Crash([]int{1})
	is(t, "another one", files(d), "a=")
}

func TestP17Copy(t *testing.T) {
	d := made(t)
	d.Rename("old", "new")
	d.Arm(2)
	before := all(d)
	c := d.Copy()
	is(t, "like it", all(c), before)
	is(t, "armed too", fmt.Sprint(int(c.Settle()), int(c.Sync("new")), int(c.Write("new", "+"))), "0 0 13")
	is(t, "apart", all(d), before)
	is(t, "loose and firm", crashed(d, 0, 1), "old=abcx")
	c = d.Copy()
	d.Write("new", "dddd")
	c.Write("new", "cccc")
	is(t, "its own bytes", files(d)+" "+files(c), "new=abcxyzdddd new=abcxyzcccc")
	c.Sync("new")
	is(t, "the same file under both names", crashed(c, 0), "old=abcxyzcccc")
	is(t, "firm in one alone", crashed(d, 0), "old=abc")
	d.Cut("new", 0)
	is(t, "Cut in one alone", crashed(c, 1), "new=abcxyzcccc")
	is(t, "its steps", fmt.Sprint(d.Steps(), c.Steps()), "7 7")
}

// nothing that is done to one of two is seen in the other, whichever is first, and however many bytes come
func TestP17Apart(t *testing.T) {
	for size := range 40 {
		d := New(1000)
		for range size {
			d.Write("a", "x")
		}
		d.Write("b", "b")
		c := d.Copy()
		c.Write("a", "c")
		d.Write("a", "d")
		begin := strings.Repeat("x", size)
		is(t, "bytes", files(c)+" "+files(d), "a="+begin+"c b=b a="+begin+"d b=b")
	}
	for turn := range 2 {
		one, other := New(100), (*Disk)(nil)
		one.Write("a", "abc")
		one.Settle()
		one.Write("b", "")
		other = one.Copy()
		if turn == 1 {
			one, other = other, one
		}
		before, behind := all(other), crashed(other, 1, 2)
		one.Write("c", "new")
		one.Rename("a", "d")
		one.Remove("b")
		one.Settle()
		one.Cut("d", 0)
		one.Write("d", "ABC")
		one.Sync("d")
		one.Limit(50)
		is(t, "as it was", all(other), before)
		is(t, "also behind a crash", crashed(other, 1, 2), behind)
		one.Crash(nil)
		one.Arm(0)
		one.Remove("c")
		is(t, "still", all(other)+crashed(other, 1, 2), before+behind)
	}
}

func TestP17CopyOfOthers(t *testing.T) {
	d := New(50)
	d.Write("a", "abc")
	d.Arm(0)
	d.Settle()
	c := d.Copy()
	is(t, "without power", all(c), "false 3 50 2")
	c.Crash([]int{1, 2})
	is(t, "apart", files(c)+" "+all(d), "a=ab false 3 50 2")
	c.Limit(7)
	is(t, "the room too", fmt.Sprint(c.Room(), d.Room()), "7 50")
	var none *Disk
	is(t, "of a nil one", all(none.Copy()), all(New(0)))
	none.Copy().Write("a", "")
	is(t, "a new one each time", all(none.Copy()), "true 0 0 0")
	is(t, "of a zero one", all(new(Disk).Copy()), "false 0 0 0")
}

// whatever picks there are, a settled file has its firm bytes and a beginning of the others
func TestP18Settled(t *testing.T) {
	for n := range 8 {
		for p := range 40 {
			d := made(t)
			d.Arm(n)
			d.Write("old", "123")
			d.Write("x", "xx")
			d.Rename("x", "y")
			d.Write("old", "456")
			d.Cut("y", 1)
			d.Remove("y")
			d.Crash([]int{p % 5, p, p / 5, p / 3})
			got, e := d.Read("old")
			is(t, "there", e, api.OK)
			if !strings.HasPrefix(got, "abc") || !strings.HasPrefix("abcxyz123456", got) {
				t.Errorf("armed %d, picks of %d: old is %s", n, p, got)
			}
		}
	}
}

// at whatever step it crashes, the name stands for the old file whole, or the new one whole
func TestP18Replaced(t *testing.T) {
	olds, news := 0, 0
	for n := -1; n < 8; n++ {
		for p := range 30 {
			d := made(t)
			d.Sync("old")
			d.Arm(n)
			d.Write("new", "NEW")
			d.Write("new", "NEWER")
			d.Sync("new")
			d.Settle()
			d.Rename("new", "old")
			d.Settle()
			d.Crash([]int{p % 4, p, p / 2})
			switch got, _ := d.Read("old"); got {
			case "abcxyz":
				olds++
			case "NEWNEWER":
				news++
			default:
				t.Errorf("armed %d, picks of %d: old is %q", n, p, got)
			}
		}
	}
	if olds == 0 || news == 0 {
		t.Errorf("%d old ones, %d new ones", olds, news)
	}
}

func TestNil(t *testing.T) {
	var d *Disk
	for _, c := range calls {
		is(t, c.what, c.call(d, "old"), api.ErrArg)
		is(t, "ErrArg ahead of ErrFile", c.call(d, "A"), api.ErrArg)
	}
	is(t, "Settle", d.Settle(), api.ErrArg)
	data, e := d.Read("a")
	is(t, "Read", fmt.Sprint(data, int(e)), "1")
	d.Limit(9)
	d.Arm(0)
	d.Crash([]int{1})
	is(t, "nothing, 0, false", all(d), "false 0 0 0")
	is(t, "no names", len(d.List()), 0)
}

func TestZero(t *testing.T) {
	d := new(Disk)
	is(t, "without power", all(d), "false 0 0 0")
	for _, c := range calls {
		is(t, c.what, c.call(d, "old"), api.ErrPower)
	}
	is(t, "Settle", d.Settle(), api.ErrPower)
	is(t, "no step", d.Steps(), 0)
	d.Arm(0)
	d.Limit(5)
	d.Crash([]int{3, 3})
	is(t, "then it is as another one", all(d), "true 0 5 0")
	is(t, "Write", fmt.Sprint(int(d.Write("a", "12345")), int(d.Write("a", "6")), int(d.Settle())), "0 12 0")
	is(t, "bytes", all(d), "true 5 5 2 a=12345")
	d = new(Disk)
	d.Crash(nil)
	is(t, "no room", fmt.Sprint(int(d.Write("a", "x")), int(d.Write("a", "")), " ", all(d)), "12 0 true 0 0 1 a=")
	c := new(Disk).Copy()
	c.Crash(nil)
	is(t, "of a zero one's copy", fmt.Sprint(int(c.Write("a", "")), " ", files(c)), "0 a=")
}

func TestErrorsLeaveIt(t *testing.T) {
	for _, c := range calls {
		if !c.there {
			continue
		}
		d := made(t)
		d.Arm(0)
		before := all(d)
		is(t, c.what, c.call(d, "none"), api.ErrNone)
		is(t, "as it was", all(d), before)
		is(t, "the power goes out later", d.Settle(), api.ErrPower)
	}
}

func TestMuch(t *testing.T) {
	d := New(api.MaxDisk)
	piece := strings.Repeat("x", 1<<10)
	for range api.MaxDisk / len(piece) {
		if e := d.Write("big", piece); e != api.OK {
			t.Fatal(e)
		}
	}
	is(t, "full", fmt.Sprint(d.Used(), int(d.Write("big", "x")), int(d.Write("other", strings.Repeat("y", 1<<25)))), "16777216 12 12")
	d.Crash([]int{1, 1 << 20})
	is(t, "a beginning", d.Used(), 1<<20)
}
