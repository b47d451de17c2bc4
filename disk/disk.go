// Package disk is layer 1: see shared/doc/01-disk.md.
package disk

import (
	"maps"
	"slices"
	"sync/atomic"

	"caisson/api"
)

// file is bytes, of which the first firm ones outlive a crash.
type file struct {
	bytes []byte
	firm  int
}

// change is a change of names that a crash may undo: a file loses the name from and gets the name to; an empty one is no name.
type change struct {
	from, to string
	file     int
}

// Disk is a stand-in for a disk with files.
//
// Names stand for files by numbers: a file may have one name among the firm ones and another one now, and must be the same file under both, also in a copy.
type Disk struct {
	room  int
	on    bool
	armed bool
	left  int // if armed: how many steps the power still outlasts
	steps atomic.Int64

	names map[string]int
	firm  map[string]int
	loose []change // what made names of firm, in order
	files map[int]*file
	last  int // the number that was given last
}

// New is an empty one with room for so many bytes.
func New(room int) *Disk {
	d := &Disk{on: true, names: map[string]int{}, files: map[int]*file{}}
	d.Limit(room)
	return d
}

// Write puts bytes behind a file's end, and makes the file if need be.
func (d *Disk) Write(name, data string) api.Errno {
	if e := d.check(name); e != api.OK {
		return e
	}
	number, there := d.names[name]
	if len(data) > d.room-d.Used() || !there && len(d.names) >= api.MaxFiles {
		return api.ErrFull
	}
	if !there {
		d.last++
		number = d.last
		d.files[number] = &file{}
		d.alter("", name, number)
	}
	f := d.files[number]
	f.bytes = append(f.bytes, data...)
	return d.step()
}

// Cut leaves a file's first bytes alone.
func (d *Disk) Cut(name string, size int) api.Errno {
	f, e := d.find(name)
	if e != api.OK {
		return e
	}
	if size < 0 || size > len(f.bytes) {
		return api.ErrArg
	}
	if e := d.step(); e != api.OK {
		return e
	}
	f.bytes = f.bytes[:size]
	f.firm = min(f.firm, size)
	return api.OK
}

// Sync makes a file's bytes firm.
func (d *Disk) Sync(name string) api.Errno {
	f, e := d.find(name)
	if e != api.OK {
		return e
	}
	if e := d.step(); e != api.OK {
		return e
	}
	f.firm = len(f.bytes)
	return api.OK
}

// Settle makes all names firm.
func (d *Disk) Settle() api.Errno {
	if e := d.check(); e != api.OK {
		return e
	}
	if e := d.step(); e != api.OK {
		return e
	}
	d.settle()
	return api.OK
}

// Rename gives a file another name; another file of that name is gone.
func (d *Disk) Rename(from, to string) api.Errno {
	if e := d.check(from, to); e != api.OK {
		return e
	}
	number, there := d.names[from]
	if !there {
		return api.ErrNone
	}
	if from != to {
		d.alter(from, to, number)
	}
	return d.step()
}

// Remove takes a file away.
func (d *Disk) Remove(name string) api.Errno {
	if _, e := d.find(name); e != api.OK {
		return e
	}
	d.alter(name, "", 0)
	return d.step()
}

// Read is all bytes of a file.
func (d *Disk) Read(name string) (string, api.Errno) {
	f, e := d.find(name)
	if e != api.OK {
		return "", e
	}
	return string(f.bytes), api.OK
}

// List are the names of all files, rising.
func (d *Disk) List() []string {
	if !d.On() {
		return nil
	}
	return sorted(d.names)
}

// Limit changes the room.
func (d *Disk) Limit(room int) {
	if d == nil {
		return
	}
	d.room = min(max(room, 0), api.MaxDisk)
}

// Arm says in which step the power goes out: behind so many more; below 0 in none.
func (d *Disk) Arm(steps int) {
	if d == nil {
		return
	}
	d.armed = steps >= 0
	d.left = max(steps, 0)
}

// Crash brings the power back: what was not firm stays as far as the picks say.
func (d *Disk) Crash(picks []int) {
	if d == nil {
		return
	}
	// A pick is used up even where nothing is loose, so that the files' picks don't hang on that.
	stay, picks := pick(picks, len(d.loose))
	d.names = map[string]int{}
	maps.Copy(d.names, d.firm)
	for _, c := range d.loose[:stay] {
		c.apply(d.names)
	}
	for _, name := range sorted(d.names) {
		picks = d.files[d.names[name]].crash(picks)
	}
	d.settle()
	d.on = true
	d.Arm(-1)
}

// On tells whether there is power.
func (d *Disk) On() bool { return d != nil && d.on }

// Used is how many bytes all files have that there are.
func (d *Disk) Used() int {
	if d == nil {
		return 0
	}
	used := 0
	for _, number := range d.names {
		used += len(d.files[number].bytes)
	}
	return used
}

// Room is for how many bytes there is room.
func (d *Disk) Room() int {
	if d == nil {
		return 0
	}
	return d.room
}

// Steps is how many steps there were.
func (d *Disk) Steps() int {
	if d == nil {
		return 0
	}
	return int(d.steps.Load())
}

// Copy is another one like it, apart from it.
func (d *Disk) Copy() *Disk {
	if d == nil {
		return New(0)
	}
	c := &Disk{
		room:  d.room,
		on:    d.on,
		armed: d.armed,
		left:  d.left,
		names: maps.Clone(d.names),
		firm:  maps.Clone(d.firm),
		loose: slices.Clone(d.loose),
		files: map[int]*file{},
		last:  d.last,
	}
	c.steps.Store(d.steps.Load())
	for number, f := range d.files {
		c.files[number] = &file{bytes: slices.Clone(f.bytes), firm: f.firm}
	}
	return c
}

// check tells what keeps a call from the files of these names.
func (d *Disk) check(names ...string) api.Errno {
	if d == nil {
		return api.ErrArg
	}
	if !d.on {
		return api.ErrPower
	}
	for _, name := range names {
		if !isName(name) {
			return api.ErrFile
		}
	}
	return api.OK
}

// find is the file that a name stands for.
func (d *Disk) find(name string) (*file, api.Errno) {
	if e := d.check(name); e != api.OK {
		return nil, e
	}
	number, there := d.names[name]
	if !there {
		return nil, api.ErrNone
	}
	return d.files[number], api.OK
}

// step counts a step, and tells whether the power goes out in it.
func (d *Disk) step() api.Errno {
	d.steps.Add(1)
	if !d.armed {
		return api.OK
	}
	if d.left > 0 {
		d.left--
		return api.OK
	}
	d.on = false
	d.Arm(-1)
	return api.ErrPower
}

// alter changes the names, which is loose up to the next Settle.
func (d *Disk) alter(from, to string, number int) {
	c := change{from: from, to: to, file: number}
	c.apply(d.names)
	d.loose = append(d.loose, c)
}

// settle makes the names firm, and forgets the files that none of them stands for.
func (d *Disk) settle() {
	d.firm = maps.Clone(d.names)
	d.loose = nil
	files := map[int]*file{}
	for _, number := range d.names {
		files[number] = d.files[number]
	}
	d.files = files
}

// apply makes the change in some names.
func (c change) apply(names map[string]int) {
	delete(names, c.from)
	if c.to != "" {
		names[c.to] = c.file
	}
}

// crash leaves of the bytes that are not firm as many as the next pick says, and makes them firm; it tells the picks that are left.
func (f *file) crash(picks []int) []int {
	if loose := len(f.bytes) - f.firm; loose > 0 {
		stay, rest := pick(picks, loose)
		f.bytes = f.bytes[:f.firm+stay]
		picks = rest
	}
	f.firm = len(f.bytes)
	return picks
}

// pick is a number from 0 to most, as the first pick says, and the picks behind that.
func pick(picks []int, most int) (int, []int) {
	if len(picks) == 0 {
		return 0, nil
	}
	p := picks[0]
	if p < 0 {
		p = -(p + 1)
	}
	return p % (most + 1), picks[1:]
}

// sorted are the names, rising.
func sorted(names map[string]int) []string {
	return slices.Sorted(maps.Keys(names))
}

// isName tells whether a text may be a file's name.
func isName(s string) bool {
	if len(s) < 1 || len(s) > api.MaxFile {
		return false
	}
	for i := range len(s) {
		if !inName(s[i]) {
			return false
		}
	}
	return true
}

// inName tells whether a byte may stand in a file's name.
func inName(b byte) bool {
	return 'a' <= b && b <= 'z' || '0' <= b && b <= '9' || b == '.' || b == '-' || b == '_'
}
