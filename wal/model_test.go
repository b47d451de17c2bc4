package wal

import (
	"fmt"
	"math"
	"slices"
	"strings"
	"testing"

	"caisson/api"
	"caisson/disk"
)

// plain is a log as the document tells it: each segment has its records, whole; what a disk would be asked is written down.
type plain struct {
	room       int
	segments   map[int][]api.Record
	settled    bool
	synced     bool
	segment    int // the last one's number
	last, firm int
	calls      []string
}

func (p *plain) size(segment int) int {
	size := 0
	for _, r := range p.segments[segment] {
		size += 20 + len(r.Data)
	}
	return size
}

func (p *plain) used() int {
	used := 0
	for n := range p.segments {
		used += p.size(n)
	}
	return used
}

func (p *plain) call(what ...any) { p.calls = append(p.calls, fmt.Sprint(what...)) }

func (p *plain) add(data string) (int, api.Errno) {
	if len(data) > 65536-12 {
		return 0, api.ErrSize
	}
	segment := p.segment
	if segment == 0 || p.size(segment) >= 4096 {
		if !p.synced {
			p.call("Sync ", segment%10)
		}
		p.synced = true
		segment++
	}
	write := fmt.Sprint("Write ", segment%10, " ", 20+len(data))
	there := segment == p.segment
	if p.used()+20+len(data) > p.room || !there && len(p.segments) == 64 {
		p.call(write, "!12")
		return 0, api.ErrFull
	}
	p.call(write)
	if !there {
		p.settled = false
	}
	p.last++
	p.segment = segment
	p.segments[p.segment] = append(p.segments[p.segment], api.Record{Seq: p.last, Data: data})
	p.synced = false
	return p.last, api.OK
}

func (p *plain) sync() api.Errno {
	if !p.synced {
		p.call("Sync ", p.segment%10)
	}
	if !p.settled {
		p.call("Settle")
	}
	p.synced, p.settled, p.firm = true, true, p.last
	return api.OK
}

func (p *plain) trim(upto int) api.Errno {
	if upto > p.firm {
		return api.ErrArg
	}
	old := []int{}
	for n, records := range p.segments {
		over := n == p.segment
		for _, r := range records {
			over = over || r.Seq > upto
		}
		if !over {
			old = append(old, n)
		}
	}
	slices.Sort(old)
	for _, n := range old {
		p.call("Remove ", n%10)
		delete(p.segments, n)
	}
	if len(old) > 0 {
		p.call("Settle")
		p.settled = true
	}
	return api.OK
}

func (p *plain) files() string {
	s := []string{}
	for n := range p.segments {
		s = append(s, fmt.Sprintf("wal-%08d %d", n, p.size(n)))
	}
	slices.Sort(s)
	return strings.Join(s, ", ")
}

// opened is it as another log finds it
func (p *plain) opened(from int) string {
	s := "0"
	p.last, p.segment = from, 0
	for n := range p.segments {
		p.segment = max(p.segment, n)
	}
	seqs := []int{}
	data := map[int]string{}
	for _, records := range p.segments {
		for _, r := range records {
			seqs, data[r.Seq] = append(seqs, r.Seq), r.Data
		}
	}
	slices.Sort(seqs)
	for _, seq := range seqs {
		p.last = max(p.last, seq)
		if seq > from {
			s += fmt.Sprint(" ", seq, "=", short(data[seq]))
		}
	}
	p.firm, p.synced, p.settled = p.last, true, true
	return s + fmt.Sprint(" last ", p.last, " firm ", p.last)
}

func TestModel(t *testing.T) {
	chance := uint32(7)
	draw := func(below int) int {
		chance = chance*1664525 + 1013904223
		return int(chance>>8) % below
	}
	sizes := []int{0, 1, 300, 2000, 4075, 4076, 4077, 9000, 65524, 65525}
	for life := range 60 {
		d := disk.New(300000)
		p := &plain{room: 300000, segments: map[int][]api.Record{}, synced: true, settled: true}
		l, n := open(t, d, 0)
		for step := range 150 {
			what := fmt.Sprint("life ", life, " step ", step)
			switch draw(12) {
			case 0, 1, 2, 3, 4, 5:
				data := strings.Repeat(string(rune('a'+step%26)), sizes[draw(len(sizes))])
				pn, pe := p.add(data)
				is(t, what+" Append", num(l.Append(data)), num(pn, pe))
			case 6, 7:
				is(t, what+" Sync", l.Sync(), p.sync())
			case 8, 9:
				upto := p.firm - 3 + draw(6)
				is(t, what+" Trim", l.Trim(upto), p.trim(upto))
			case 10:
				p.room = []int{0, 5000, 30000, 300000}[draw(4)]
				d.Limit(p.room)
			case 11:
				first := math.MaxInt
				for _, records := range p.segments {
					first = min(first, records[0].Seq)
				}
				from := p.last
				if first <= p.last {
					from -= draw(p.last - first + 2)
				}
				want := p.opened(from)
				is(t, what+" Open", told(Open(d, from)), want)
				l, n = open(t, d, from)
			}
			is(t, what+" calls", strings.Join(n.calls, ", "), strings.Join(p.calls, ", "))
			n.calls, p.calls = nil, nil
			is(t, what+" told", line(l.Last(), l.Firm(), l.Broken()), line(p.last, p.firm, false))
			is(t, what+" disk", files(d), p.files())
			if t.Failed() {
				return
			}
		}
	}
}
