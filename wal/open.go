package wal

import (
	"caisson/api"
	"caisson/codec"
	"caisson/disk"
)

// Open reads what is there, and mends its end.
func Open(d *disk.Disk, from int) (l *Log, later []api.Record, fault api.Errno) {
	if d == nil || from < 0 {
		return nil, nil, api.ErrArg
	}
	if !d.On() {
		return nil, nil, api.ErrPower
	}
	defer func() {
		if r := recover(); r != nil {
			l, later, fault = nil, nil, cause(r)
		}
	}()
	l = &Log{disk: d}
	records, torn := l.load()
	check(fits(records, from))
	l.mend(torn)
	l.last = from
	if many := len(records); many > 0 {
		l.last = records[many-1].Seq
	}
	l.firm = l.last
	return l, behind(records, from), api.OK
}

// must gives up with an error.
func must(e api.Errno) {
	if e != api.OK {
		panic(e)
	}
}

// check gives up, if the log may not be.
func check(may bool) {
	if !may {
		panic(api.ErrLog)
	}
}

// cause is the error that was given up with; what else went wrong goes on.
func cause(given any) api.Errno {
	e, ok := given.(api.Errno)
	if !ok {
		panic(given)
	}
	return e
}

// load reads all segments; it tells their records, and whether a frame ends too early in the last one, which then counts up to there.
func (l *Log) load() ([]api.Record, bool) {
	numbers := segments(l.disk.List())
	records := []api.Record{}
	torn := false
	for i, number := range numbers {
		check(i == 0 || number == numbers[i-1]+1)
		check(!torn)
		data, e := l.disk.Read(Name(number))
		must(e)
		s := segment{number: number}
		ahead := len(records)
		records, l.size = scan(records, data)
		if len(records) > ahead {
			s.last = records[len(records)-1].Seq
		}
		torn = l.size < len(data)
		l.files = append(l.files, s)
	}
	return records, torn
}

// mend cuts the last segment where its last record ends, and makes all firm.
func (l *Log) mend(torn bool) {
	if len(l.files) == 0 {
		return
	}
	name := Name(l.number())
	if torn {
		must(l.disk.Cut(name, l.size))
	}
	must(l.disk.Sync(name))
	must(l.disk.Settle())
}

// segments are the numbers of those that are among some files, rising as these do.
func segments(names []string) []int {
	numbers := []int{}
	for _, name := range names {
		if n := numberOf(name); n > 0 {
			numbers = append(numbers, n)
		}
	}
	return numbers
}

// scan puts a segment's records behind the others; it tells where they end: ahead of the end of data, if a frame ends too early.
func scan(records []api.Record, data string) ([]api.Record, int) {
	at := 0
	for at < len(data) {
		body, size, e := codec.Unframe(data[at:])
		if e == api.ErrShort {
			break
		}
		check(e == api.OK)
		r, e := unRecord(body)
		check(e == api.OK && follows(records, r))
		records = append(records, r)
		at += size
	}
	return records, at
}

// follows tells whether a record may stand behind the others.
func follows(records []api.Record, r api.Record) bool {
	if len(records) == 0 {
		return r.Seq >= 1
	}
	// The number may be the least that there is: nothing is taken off it unasked.
	return r.Seq > 1 && r.Seq-1 == records[len(records)-1].Seq
}

// fits tells whether the records go on from a number, or hold it.
func fits(records []api.Record, from int) bool {
	if len(records) == 0 {
		return true
	}
	first, last := records[0].Seq, records[len(records)-1].Seq
	return first-1 <= from && from <= last
}

// behind are the records whose number is above from.
func behind(records []api.Record, from int) []api.Record {
	later := []api.Record{}
	for _, r := range records {
		if r.Seq > from {
			later = append(later, r)
		}
	}
	return later
}
