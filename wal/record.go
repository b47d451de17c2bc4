package wal

import (
	"strconv"
	"strings"

	"caisson/api"
	"caisson/codec"
)

// How a segment's file is called.
const (
	prefix = "wal-"
	digits = 8
	most   = 99999999
)

// Name is a segment's file.
func Name(segment int) string {
	if segment < 1 || segment > most {
		return ""
	}
	number := strconv.Itoa(segment)
	return prefix + strings.Repeat("0", digits-len(number)) + number
}

// Record is a record's bytes.
func Record(seq int, data string) (string, api.Errno) {
	w := &codec.Writer{}
	w.Int(int64(seq))
	w.Text(data)
	body, e := w.Done()
	if e != api.OK {
		return "", e
	}
	return codec.Frame(body)
}

// unRecord is the record that a frame's body holds.
func unRecord(body string) (api.Record, api.Errno) {
	r := codec.Read(body)
	seq := r.Int()
	data := r.Text()
	if e := r.Done(); e != api.OK {
		return api.Record{}, e
	}
	return api.Record{Seq: int(seq), Data: data}, api.OK
}

// numberOf is the number of the segment that a file is; 0, if it is none.
func numberOf(name string) int {
	n, err := strconv.Atoi(strings.TrimPrefix(name, prefix))
	if err != nil || Name(n) != name {
		return 0
	}
	return n
}
