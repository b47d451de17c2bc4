package catalog

import (
	"fmt"
	"strings"
	"testing"

	"caisson/api"
	"caisson/disk"
)

// bytes that are no manifest, or one that names no checkpoint's file
func noManifests() []string {
	good := mani("cat-00000001")
	l := []string{
		"", "cat-00000001", txt("cat-00000001"), frm("cat-00000001"), frm(""),
		good + "x", good + good, frm(txt("cat-00000001") + "x"), frm(txt("cat-00000001") + txt("")),
		whole(two(2)),
	}
	for at := range good {
		l = append(l, good[:at], turned(good, at, at%8))
	}
	for _, name := range []string{
		"", "cat-", "cat-1", "cat-0000001", "cat-000000001", "cat-00000000", "cat-100000000", "cat--0000001", "cat-+0000001",
		"cat-0000000a", "cat-0000001 ", "cat-00000001x", " cat-00000001", "Cat-00000001", "00000001", "wal-00000001", "manifest", "cat-cat-00000001", "cat-0000_001", "cat-0x000001",
	} {
		l = append(l, mani(name))
	}
	return l
}

func TestP82None(t *testing.T) {
	is(t, "nil", loadTold(Load(nil)), "1 false: "+none)
	is(t, "zero", loadTold(Load(&disk.Disk{})), "13 false: "+none)
	is(t, "off", loadTold(Load(off())), "13 false: "+none)
	is(t, "empty", loadTold(Load(disk.New(0))), "0 false: "+none)
	is(t, "a checkpoint's file alone", loadTold(Load(with("cat-00000001", whole(two(2))))), "0 false: "+none)
	is(t, "a new manifest alone", loadTold(Load(with("cat-00000001", whole(two(2)), fresh, mani("cat-00000001")))), "0 false: "+none)
}

func TestP82Loaded(t *testing.T) {
	for i, c := range many() {
		for _, number := range []int{1, 7, 12345678, 99999999} {
			name := fmt.Sprintf("cat-%08d", number)
			d := with(manifest, mani(name), name, whole(c), "cat-00000005", "x", fresh, "x", "wal-00000001", "x")
			was, steps := files(d), d.Steps()
			is(t, fmt.Sprint("checkpoint ", i, " ", name), loadTold(Load(d)), "0 true: "+show(c))
			is(t, "left alone", line(files(d), d.Steps()), line(was, steps))
		}
	}
}

func TestP82Broken(t *testing.T) {
	c := whole(two(2))
	for i, m := range noManifests() {
		is(t, fmt.Sprintf("manifest %d %q", i, m), loadTold(Load(with(manifest, m, "cat-00000001", c, "cat-00000000", c))), "27 false: "+none)
	}
	is(t, "no file", loadTold(Load(with(manifest, mani("cat-00000002"), "cat-00000001", c))), "27 false: "+none)
	is(t, "an empty file", loadTold(Load(with(manifest, mani("cat-00000001"), "cat-00000001", ""))), "27 false: "+none)
	for at := range c {
		is(t, fmt.Sprint("turned ", at), loadTold(Load(with(manifest, mani("cat-00000001"), "cat-00000001", turned(c, at, at%8)))), "27 false: "+none)
		is(t, fmt.Sprint("cut to ", at), loadTold(Load(with(manifest, mani("cat-00000001"), "cat-00000001", c[:at]))), "27 false: "+none)
	}
	is(t, "longer", loadTold(Load(with(manifest, mani("cat-00000001"), "cat-00000001", c+"x"))), "27 false: "+none)
}

func TestP83Errors(t *testing.T) {
	below, great, good := two(-1), headOfSize(65537), two(2)
	for i, c := range []api.Checkpoint{below, great, good} {
		is(t, fmt.Sprint("nil ", i), Save(nil, c), api.ErrArg)
		is(t, fmt.Sprint("zero ", i), Save(&disk.Disk{}, c), api.ErrPower)
		is(t, fmt.Sprint("off ", i), Save(off(), c), api.ErrPower)
	}
	for _, m := range append(noManifests(), mani("cat-00000001")) {
		d := with(manifest, m, fresh, "x", "cat-00000001", whole(two(1)), "cat-00000002", "x")
		was, steps := files(d), d.Steps()
		is(t, "below 0", Save(d, below), api.ErrArg)
		is(t, "great", Save(d, great), api.ErrSize)
		if m != mani("cat-00000001") {
			is(t, fmt.Sprintf("manifest %q", m), Save(d, good), api.ErrStore)
		}
		is(t, "left alone", line(files(d), d.Steps()), line(was, steps))
	}
}

// An old manifest's checkpoint need not be there, nor be one.
func TestP83BrokenCheckpoint(t *testing.T) {
	for i, d := range []*disk.Disk{with(manifest, mani("cat-00000041")), with(manifest, mani("cat-00000041"), "cat-00000041", "x")} {
		is(t, fmt.Sprint("disk ", i), line(Save(d, two(2)), d.List()), line(api.OK, "[cat-00000042 manifest]"))
		is(t, "Load", loadTold(Load(d)), "0 true: "+show(two(2)))
	}
}

func TestP83Numbers(t *testing.T) {
	d := disk.New(10000)
	for n := range 12 {
		name := fmt.Sprintf("cat-%08d", n+1)
		is(t, name, Save(d, two(n)), api.OK)
		is(t, name, files(d), fmt.Sprintf("%s=%x;manifest=%x;", name, whole(two(n)), mani(name)))
	}
	d = with(manifest, mani("cat-99999998"), "cat-99999998", whole(two(2)))
	is(t, "the last number", line(Save(d, two(3)), d.List()), line(api.OK, "[cat-99999999 manifest]"))
	is(t, "none behind it", Save(d, two(4)), api.ErrFile)
	is(t, "as it was", loadTold(Load(d)), "0 true: "+show(two(3)))
	is(t, "its files", d.List(), "[cat-99999999 manifest]")
}

// byHand asks a disk what a Save is to ask it: of a checkpoint's bytes, behind the file that was valid, with some files to be removed ahead, and some behind.
func byHand(d *disk.Disk, data, name string, ahead, behind []string) api.Errno {
	calls := []func() api.Errno{}
	remove := func(names []string) {
		for _, other := range names {
			calls = append(calls, func() api.Errno { return d.Remove(other) })
		}
	}
	remove(ahead)
	calls = append(calls,
		func() api.Errno { return d.Write(name, data) },
		func() api.Errno { return d.Sync(name) },
		func() api.Errno { return d.Settle() },
		func() api.Errno { return d.Write("manifest.new", mani(name)) },
		func() api.Errno { return d.Sync("manifest.new") },
		func() api.Errno { return d.Rename("manifest.new", "manifest") },
		func() api.Errno { return d.Settle() },
	)
	if len(behind) > 0 {
		remove(behind)
		calls = append(calls, func() api.Errno { return d.Settle() })
	}
	for _, call := range calls {
		if e := call(); e != api.OK {
			return e
		}
	}
	return api.OK
}

// one place from which a Save sets out, and what it is to do there
type place struct {
	what          string
	d             *disk.Disk
	name          string
	ahead, behind []string
}

func places() []place {
	old, m := whole(two(1)), mani("cat-00000007")
	strange := []string{"cat-00000000", old, "cat-1", old, "cat-000000010", old, "cat-0000000a", old, "cat.00000001", old, "wal-00000001", "w", "manifest.old", m, "a", ""}
	loose := with(manifest, m, "cat-00000007", old)
	loose.Write("cat-00000008", "left behind")
	loose.Write("wal-00000001", "loose")
	loose.Write("cat-00000009", "loose, too")
	all := append([]string{manifest, m, fresh, "left", "cat-00000007", old, "cat-00000008", "left", "cat-00000009", "x", "cat-99999999", "x", "cat-00000001", "x"}, strange...)
	return []place{
		{"empty", disk.New(100000), "cat-00000001", nil, nil},
		{"one ahead", with(manifest, m, "cat-00000007", old), "cat-00000008", nil, []string{"cat-00000007"}},
		{"left behind", with(manifest, m, "cat-00000007", old, "cat-00000008", "left", fresh, "left"), "cat-00000008", []string{"cat-00000008", fresh}, []string{"cat-00000007"}},
		{"a new manifest left behind", with(manifest, m, "cat-00000007", old, fresh, "left"), "cat-00000008", []string{fresh}, []string{"cat-00000007"}},
		{"no manifest", with("cat-00000001", old, "cat-00000002", "x", fresh, ""), "cat-00000001", []string{"cat-00000001", fresh}, []string{"cat-00000002"}},
		{"strange files", with(strange...), "cat-00000001", nil, nil},
		{"loose files", loose, "cat-00000008", []string{"cat-00000008"}, []string{"cat-00000007", "cat-00000009"}},
		{"all of it", with(all...), "cat-00000008", []string{"cat-00000008", fresh}, []string{"cat-00000001", "cat-00000007", "cat-00000009", "cat-99999999"}},
	}
}

// crashed are a disk's files behind crashes of many kinds, which also tell what was firm, and which names were loose, in their order
func crashed(d *disk.Disk) string {
	s := fmt.Sprint(d.On(), d.Steps(), files(d))
	for names := range 14 {
		for _, bytes := range []int{0, 3, 1 << 30} {
			c := d.Copy()
			c.Crash([]int{names, bytes, bytes, bytes})
			s += fmt.Sprint("\n", names, " ", bytes, ": ", files(c))
		}
	}
	return s
}

// A Save does step by step what is done by hand, wherever the power goes.
func TestP83Steps(t *testing.T) {
	data := whole(two(2))
	for _, p := range places() {
		last := p.d.Copy()
		is(t, p.what, Save(last, two(2)), api.OK)
		steps := last.Steps() - p.d.Steps()
		settled := min(len(p.behind), 1)
		is(t, p.what+": steps", steps, len(p.ahead)+7+len(p.behind)+settled)
		for arm := range steps + 1 {
			got, want := p.d.Copy(), p.d.Copy()
			got.Arm(arm)
			want.Arm(arm)
			what := fmt.Sprint(p.what, ", step ", arm)
			is(t, what, Save(got, two(2)), byHand(want, data, p.name, p.ahead, p.behind))
			if g, w := crashed(got), crashed(want); g != w {
				t.Fatalf("%s: %s\nwant %s", what, g, w)
			}
		}
	}
}

// So it does in whatever room there is.
func TestP83Room(t *testing.T) {
	data := whole(two(2))
	for _, p := range places() {
		for more := -120; more <= len(data)+40; more++ {
			got, want := p.d.Copy(), p.d.Copy()
			got.Limit(p.d.Used() + more)
			want.Limit(p.d.Used() + more)
			what := fmt.Sprint(p.what, ", room ", more)
			e := Save(got, two(2))
			is(t, what, e, byHand(want, data, p.name, p.ahead, p.behind))
			is(t, what, line(files(got), got.Steps()), line(files(want), want.Steps()))
			if e != api.OK && e != api.ErrFull {
				t.Fatal(what, e)
			}
		}
	}
}

// There may be no more than 64 files; the old checkpoint stays till the new one is there.
func TestP83Files(t *testing.T) {
	for many := range 63 {
		d := disk.New(100000)
		Save(d, two(1))
		for i := range many {
			d.Write(fmt.Sprint("file-", i), "")
		}
		e := Save(d, two(2))
		c, ok, f := Load(d)
		want := line(api.OK, true, api.OK, 2)
		if many > 60 {
			want = line(api.ErrFull, true, api.OK, 1)
		}
		is(t, fmt.Sprint(many, " files"), line(e, ok, f, c.Seq), want)
		is(t, "files of others", strings.Count(files(d), "file-"), many)
	}
}

// A checkpoint of many bytes is written like any other.
func TestP83Great(t *testing.T) {
	d := disk.New(api.MaxDisk)
	great := api.Checkpoint{Seq: 100, Batches: make([][]api.Fact, 100)}
	for i := range great.Batches {
		great.Batches[i] = batchOfSize(60000)
	}
	is(t, "great", Save(d, great), api.OK)
	is(t, "greater than the room with the old one", Save(d, headOfSize(65536)), api.OK)
	is(t, "great again", Save(d, great), api.OK)
	c, ok, e := Load(d)
	is(t, "Load", line(ok, e, show(c) == show(great)), line(true, api.OK, true))
	d.Limit(d.Used() + 1000)
	is(t, "no room beside the old one", Save(d, great), api.ErrFull)
	c, ok, e = Load(d)
	is(t, "Load", line(ok, e, show(c) == show(great)), line(true, api.OK, true))
}
