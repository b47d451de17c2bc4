package catalog

import (
	"strconv"
	"strings"

	"caisson/api"
	"caisson/codec"
)

// The manifest says which checkpoint is the valid one; the fresh one is on its way to take its place.
const (
	manifest = "manifest"
	fresh    = "manifest.new"
)

// How a checkpoint's file is called: by a number of eight digits.
const (
	prefix = "cat-"
	most   = 99999999
)

// File is a checkpoint's file.
func File(n int) string {
	if n < 1 || n > most {
		return ""
	}
	// A digit more in front keeps the noughts behind it.
	return prefix + strconv.Itoa(most + 1 + n)[1:]
}

// numberOf is the number of the checkpoint that a file is; 0, if it is none.
func numberOf(name string) int {
	n, err := strconv.Atoi(strings.TrimPrefix(name, prefix))
	if err != nil || File(n) != name {
		return 0
	}
	return n
}

// manifestOf is the bytes of a manifest that names a file.
func manifestOf(file string) string {
	w := &codec.Writer{}
	w.Text(file)
	// A checkpoint's name is so short that no frame is too small for it.
	data, _ := framed(w)
	return data
}

// unManifest is the number of the checkpoint that a manifest's bytes name.
func unManifest(data string) (int, api.Errno) {
	r, rest := unframed(data)
	number := numberOf(r.Text())
	if r.Done() != api.OK || rest != "" || number == 0 {
		return 0, api.ErrStore
	}
	return number, api.OK
}
