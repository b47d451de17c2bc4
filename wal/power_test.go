package wal

import (
	"fmt"
	"strings"
	"testing"

	"caisson/api"
	"caisson/disk"
)

// a history is what was done on a disk, whichever log did it
type history struct {
	d       *disk.Disk
	l       *Log
	tried   map[int]string // what was appended, by number, also if the power went out in it
	firm    int
	trimmed int
}

func (h *history) copy() *history {
	c := &history{d: h.d.Copy(), tried: map[int]string{}, firm: h.firm, trimmed: h.trimmed}
	for n, data := range h.tried {
		c.tried[n] = data
	}
	return c
}

func (h *history) add(size int) {
	was := h.l.Broken()
	seq := h.l.Last() + 1
	data := fmt.Sprint(seq, strings.Repeat("x", size))
	n, e := h.l.Append(data)
	if e == api.OK && n != seq {
		panic("another number")
	}
	if e == api.OK || e == api.ErrPower && !was {
		h.tried[seq] = data
	}
}

func (h *history) sync() {
	if h.l.Sync() == api.OK {
		h.firm = h.l.Firm()
	}
}

func (h *history) trim(upto int) {
	if upto <= h.l.Firm() {
		h.trimmed = max(h.trimmed, upto)
	}
	h.l.Trim(upto)
}

// some of all that may be done
func (h *history) play() {
	h.add(3)
	h.add(5000)
	h.sync()
	h.add(4000)
	h.add(200)
	h.sync()
	h.add(10)
	h.add(6000)
	h.add(7)
	h.trim(h.l.Firm())
	h.add(8)
	h.sync()
	h.trim(h.l.Firm())
	h.add(9)
}

// the same of a disk that has no room where new segments would begin
func (h *history) playFull() {
	h.add(3)
	h.add(5000)
	h.full()
	h.sync()
	h.full()
	h.add(6000)
	h.full()
	h.sync()
	h.full()
	h.add(8)
	h.full()
	h.sync()
	h.trim(h.l.Firm())
	h.add(9)
}

// there is no room: if the last segment is full, no new one begins
func (h *history) full() {
	room := h.d.Room()
	h.d.Limit(h.d.Used())
	h.add(1)
	h.trim(h.l.Firm())
	h.d.Limit(room)
}

// opens the log and holds what it tells against what was done
func (h *history) open(t *testing.T, what string, from int) {
	t.Helper()
	l, rs, e := Open(h.d, from)
	if e != api.OK {
		t.Fatalf("%s: Open from %d: %v (%s; firm %d, trimmed %d)", what, from, e, files(h.d), h.firm, h.trimmed)
	}
	for i, r := range rs {
		if data, there := h.tried[r.Seq]; r.Seq != from+1+i || !there || data != r.Data {
			t.Fatalf("%s: from %d: record %d at place %d: %s", what, from, r.Seq, i, short(r.Data))
		}
	}
	if l.Last() != from+len(rs) || l.Last() < h.firm || l.Firm() != l.Last() || l.Broken() {
		t.Fatalf("%s: from %d: last %d, firm %d, %d records, firm ahead %d", what, from, l.Last(), l.Firm(), len(rs), h.firm)
	}
	h.l, h.firm = l, l.Firm()
	for n := range h.tried {
		if n > h.firm {
			delete(h.tried, n)
		}
	}
}

// picks of a crash: how much stays of the names, and of one file's bytes or another's
func somePicks() [][]int {
	all := [][]int{}
	for names := range 5 {
		for _, bytes := range []int{0, 1, 7, 8, 20, 25, 4999, 5021} {
			all = append(all, []int{names, bytes, 2 * bytes}, []int{-1 - names, 0, bytes})
		}
	}
	return all
}

func begun(t *testing.T) *history {
	t.Helper()
	h := &history{d: disk.New(100000), tried: map[int]string{}}
	h.open(t, "at first", 0)
	return h
}

// a story is what is done, and up to which record all is firm and trimmed behind it
type story struct {
	name string
	play func(h *history)
	firm int
}

func stories() []story {
	return []story{{"room", (*history).play, 8}, {"no room", (*history).playFull, 4}}
}

// The power goes in each step; behind it the log is opened from each number that may be, and goes on.
func TestP56Power(t *testing.T) {
	for _, s := range stories() {
		all := begun(t)
		before := all.d.Steps()
		s.play(all)
		if all.l.Broken() || all.firm != s.firm || all.trimmed != s.firm {
			t.Fatal("the play", s.name, all.firm, all.trimmed, all.l.Broken())
		}
		steps := all.d.Steps() - before
		for arm := range steps + 1 {
			h := begun(t)
			h.d.Arm(arm)
			s.play(h)
			is(t, "broken", h.l.Broken(), arm < steps)
			h.everyCrash(t, fmt.Sprint(s.name, ", step ", arm))
		}
	}
}

// the disk crashes in many ways, each time ahead of another life
func (h *history) everyCrash(t *testing.T, step string) {
	t.Helper()
	for _, picks := range somePicks() {
		what := fmt.Sprint(step, " ", picks)
		for from := h.trimmed; from <= h.firm; from++ {
			c := h.copy()
			c.d.Crash(picks)
			c.open(t, what, from)
		}
		c := h.copy()
		c.d.Crash(picks)
		c.open(t, what, h.trimmed)
		c.add(50)
		c.sync()
		c.add(5)
		c.d.Crash(picks)
		c.open(t, what+" and again", h.trimmed)
	}
}

// The power goes in each step of Open, too.
func TestP56PowerInOpen(t *testing.T) {
	for _, s := range stories() {
		for arm := range 22 {
			h := begun(t)
			h.d.Arm(arm)
			s.play(h)
			for _, picks := range somePicks() {
				for again := range 3 {
					c := h.copy()
					c.d.Crash(picks)
					c.d.Arm(again)
					Open(c.d, c.trimmed)
					c.d.Crash(picks)
					c.open(t, fmt.Sprint(s.name, ", steps ", arm, " ", again, " ", picks), c.trimmed)
				}
			}
		}
	}
}

// Long lives by chance: the script of chances is always the same.
func TestP56Lives(t *testing.T) {
	chance := uint32(1)
	draw := func(below int) int {
		chance = chance*1664525 + 1013904223
		return int(chance>>8) % below
	}
	for life := range 60 {
		h := begun(t)
		for year := range 40 {
			if draw(2) == 0 {
				h.d.Limit(20000 + draw(60000))
			}
			h.d.Arm(draw(30))
			for range 20 {
				switch draw(5) {
				case 0, 1, 2:
					h.add([]int{0, 5, 300, 4000, 5000}[draw(5)])
				case 3:
					h.sync()
				case 4:
					h.trim(h.l.Firm() - draw(5))
				}
			}
			h.d.Crash([]int{draw(9), draw(9000), draw(9000)})
			h.open(t, fmt.Sprint("life ", life, " year ", year), h.trimmed+draw(h.firm-h.trimmed+1))
		}
	}
}

// A synced record's body and check are held against each other, wherever the record stands.
func TestP56Turned(t *testing.T) {
	d := disk.New(100000)
	l, _ := open(t, d, 0)
	for _, size := range []int{3, 0, 4200, 1, 60} {
		l.Append(strings.Repeat("x", size))
	}
	l.Sync()
	for i, name := range d.List() {
		data, _ := d.Read(name)
		ends := map[int]bool{}
		for at := 0; at < len(data); {
			size := int(data[at]) | int(data[at+1])<<8
			for b := at + 4; b < at+8+size; b++ {
				ends[b] = true
			}
			at += 8 + size
		}
		for at := range ends {
			if at > 100 && at%97 != 0 {
				continue
			}
			parts := []string{}
			for j, other := range d.List() {
				s, _ := d.Read(other)
				if i == j {
					s = turned(s, at)
				}
				parts = append(parts, s)
			}
			is(t, fmt.Sprint("byte ", at, " of ", name), told(Open(with(1, parts...), 0)), "24")
		}
	}
}
