package catalog

import (
	"fmt"
	"testing"

	"caisson/api"
	"caisson/disk"
)

// Read of Bytes is the checkpoint, whatever it has.
func TestP84ReadOfBytes(t *testing.T) {
	draw := draws(5)
	for i := range 3000 {
		c := drawn(draw, draw(1000))
		s, e := Bytes(c)
		is(t, fmt.Sprint("Bytes ", i), e, api.OK)
		is(t, fmt.Sprint("Read ", i), readTold(Read(s)), "0: "+show(c))
	}
}

// numbers below many, the same ones each time
func draws(seed uint32) func(many int) int {
	return func(many int) int {
		seed = seed*1664525 + 1013904223
		return int(seed>>8) % many
	}
}

func drawnText(draw func(int) int) string { return "abc\xff\x00 x"[:draw(8)] }

// a checkpoint of that Seq with anything else in it
func drawn(draw func(int) int, seq int) api.Checkpoint {
	c := api.Checkpoint{Seq: seq}
	for range draw(4) {
		c.Schema.Dims = append(c.Schema.Dims, drawnText(draw))
		c.Schema.Meas = append(c.Schema.Meas, drawnText(draw))
		c.Views = append(c.Views, draw(100)-50)
	}
	for range draw(5) {
		batch := []api.Fact{}
		for range draw(4) {
			f := api.Fact{}
			for range draw(4) {
				f.Dims = append(f.Dims, drawnText(draw))
			}
			for range draw(3) {
				f.Meas = append(f.Meas, int64(draw(1000)-500)<<draw(50))
			}
			batch = append(batch, f)
		}
		c.Batches = append(c.Batches, batch)
	}
	return c
}

// picks of a crash: how many names stay, and how much of one file or another
func somePicks() [][]int {
	all := [][]int{nil}
	for names := range 8 {
		for _, bytes := range []int{0, 1, 8, 23, 24, 50, 1 << 30} {
			all = append(all, []int{names, bytes, 2 * bytes}, []int{-1 - names, 0, bytes})
		}
	}
	return all
}

// what there is to be loaded: a checkpoint as it is shown, or none
func validOn(t *testing.T, what string, d *disk.Disk) string {
	t.Helper()
	c, ok, e := Load(d)
	if e != api.OK {
		t.Fatalf("%s: Load: %v; %s", what, e, files(d))
	}
	if !ok {
		return "none"
	}
	return show(c)
}

// disks on which a Save is tried: without and with a checkpoint, and with what earlier Saves left
func grounds() []*disk.Disk {
	empty := disk.New(100000)
	saved := empty.Copy()
	Save(saved, two(2))
	left := saved.Copy()
	left.Arm(5)
	Save(left, two(7))
	left.Crash([]int{9, 9, 9})
	later := saved.Copy()
	later.Arm(8)
	Save(later, two(2))
	later.Crash(nil)
	loose := saved.Copy()
	loose.Limit(loose.Used() + 10)
	Save(loose, two(7))
	loose.Limit(100000)
	return []*disk.Disk{empty, saved, left, later, loose}
}

// The power goes in each step of a Save, and of the next one: the old checkpoint or the new one is there, and the new one is not lost again.
func TestP84Power(t *testing.T) {
	for i, ground := range grounds() {
		old, renewed := validOn(t, "the ground", ground), show(two(3))
		settled := false
		for arm := range 14 {
			d := ground.Copy()
			d.Arm(arm)
			e := Save(d, two(3))
			for _, picks := range somePicks() {
				what := fmt.Sprint("ground ", i, ", step ", arm, " ", picks)
				c := d.Copy()
				c.Crash(picks)
				got := validOn(t, what, c)
				if got != renewed && (got != old || e == api.OK || settled) {
					t.Fatalf("%s: %v %s; %s", what, e, got, files(c))
				}
				savedAgain(t, what, c, got, arm, picks)
			}
			firm := d.Copy()
			firm.Crash(nil)
			settled = validOn(t, "the firm one", firm) == renewed
		}
		is(t, fmt.Sprint("ground ", i, " at last"), settled, true)
	}
}

// behind a crash another Save may be made, in which the power may go as well
func savedAgain(t *testing.T, what string, d *disk.Disk, old string, arm int, picks []int) {
	t.Helper()
	c := d.Copy()
	c.Arm(13 - arm)
	e := Save(c, two(4))
	c.Crash(picks)
	got := validOn(t, what+" and again", c)
	if got != show(two(4)) && (got != old || e == api.OK) {
		t.Fatalf("%s and again: %v %s; %s", what, e, got, files(c))
	}
	is(t, what+" and at last", Save(c, two(5)), api.OK)
	is(t, what+" and at last", validOn(t, what, c), show(two(5)))
	is(t, what+" and at last", len(c.List()), 2)
}

// Without room the old one stays, also behind a crash, and with room again another one takes its place.
func TestP84Full(t *testing.T) {
	for i, ground := range grounds() {
		old, full := validOn(t, "the ground", ground), 0
		for room := range ground.Used() + 400 {
			d := ground.Copy()
			d.Limit(room)
			e := Save(d, two(3))
			want := show(two(3))
			if e != api.OK {
				full++
				want = old
				is(t, "full", e, api.ErrFull)
			}
			for _, picks := range [][]int{nil, {1, 1, 1}, {2, 9, 9}, {3}, {4, 50, 50}} {
				c := d.Copy()
				c.Crash(picks)
				what := fmt.Sprint("ground ", i, ", room ", room, " ", picks)
				is(t, what, validOn(t, what, c), want)
				c.Limit(100000)
				is(t, what+" and again", line(Save(c, two(6)), validOn(t, what, c)), line(api.OK, show(two(6))))
			}
			is(t, "ahead of a crash", validOn(t, "full", d), want)
		}
		is(t, fmt.Sprint("ground ", i, ": full and not"), line(full > 100, full < ground.Used()+300), line(true, true))
	}
}

// Long lives by chance, of a disk that others use as well.
func TestP84Lives(t *testing.T) {
	for life := range 200 {
		draw := draws(uint32(life))
		d := disk.New(100000)
		valid := "none"
		for year := range 40 {
			what := fmt.Sprint("life ", life, " year ", year)
			d.Write(fmt.Sprint("wal-0000000", draw(5)), drawnText(draw))
			d.Limit([]int{100000, d.Used() + draw(400)}[draw(2)])
			if draw(2) == 0 {
				d.Arm(draw(15))
			}
			c := drawn(draw, year)
			e := Save(d, c)
			if e == api.ErrPower || draw(3) == 0 {
				d.Crash([]int{draw(9), draw(100), draw(100), draw(100)})
			}
			d.Arm(-1)
			got := validOn(t, what, d)
			if e == api.OK && got != show(c) || e == api.ErrFull && got != valid || got != show(c) && got != valid {
				t.Fatalf("%s: %v %s, ahead %s; %s", what, e, got, valid, files(d))
			}
			valid = got
		}
	}
}
