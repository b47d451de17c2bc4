package catalog

import (
	"strings"

	"caisson/api"
	"caisson/codec"
)

// Bytes is a checkpoint as bytes: a frame of what it has beside its batches, and one of each batch.
func Bytes(c api.Checkpoint) (string, api.Errno) {
	if c.Seq < 0 {
		return "", api.ErrArg
	}
	var all strings.Builder
	if e := lay(&all, headOf(c)); e != api.OK {
		return "", e
	}
	for _, batch := range c.Batches {
		w := &codec.Writer{}
		w.Facts(batch)
		if e := lay(&all, w); e != api.OK {
			return "", e
		}
	}
	return all.String(), api.OK
}

// Read is the checkpoint whose bytes these are.
func Read(s string) (api.Checkpoint, api.Errno) {
	r, rest := unframed(s)
	c := unHead(r)
	// Each batch's frame has some bytes: there can't be more batches than bytes.
	many := r.Count(len(rest))
frames:
	for {
		switch {
		case r.Done() != api.OK || c.Seq < 0:
			break frames
		case len(c.Batches) < many:
			r, rest = unframed(rest)
			c.Batches = append(c.Batches, r.Facts())
		case rest != "":
			break frames
		default:
			return c, api.OK
		}
	}
	return api.Checkpoint{}, api.ErrStore
}

// headOf is a writer that has laid down what a checkpoint has beside its batches, and how many of these there are.
func headOf(c api.Checkpoint) *codec.Writer {
	w := &codec.Writer{}
	w.Int(int64(c.Seq))
	w.Schema(c.Schema)
	w.Count(len(c.Views))
	for _, view := range c.Views {
		w.Int(int64(view))
	}
	w.Count(len(c.Batches))
	return w
}

// unHead takes up what a checkpoint has beside its batches.
func unHead(r *codec.Reader) api.Checkpoint {
	var c api.Checkpoint
	c.Seq = int(r.Int())
	c.Schema = r.Schema()
	// Each view has some bytes: there can't be more views than bytes.
	for range r.Count(r.Left()) {
		c.Views = append(c.Views, int(r.Int()))
	}
	return c
}

// lay puts the frame of what a writer laid down behind the others. A writer says ErrArg of what is too many for a Count; that is too great for a frame likewise.
func lay(all *strings.Builder, w *codec.Writer) api.Errno {
	data, e := framed(w)
	if e != api.OK {
		return api.ErrSize
	}
	all.WriteString(data)
	return api.OK
}

// framed is the frame of what a writer laid down.
func framed(w *codec.Writer) (string, api.Errno) {
	body, e := w.Done()
	if e != api.OK {
		return "", e
	}
	return codec.Frame(body)
}

// unframed is a reader of the body of the frame with which a text begins, and what stands behind that frame; where the frame is wrong, so is all that the reader takes up.
func unframed(s string) (*codec.Reader, string) {
	body, size, e := codec.Unframe(s)
	r := codec.Read(body)
	r.Fail(e)
	return r, s[size:]
}
