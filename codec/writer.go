package codec

import (
	"math"

	"caisson/api"
)

// Writer lays things down as bytes, one behind the other.
type Writer struct {
	data  []byte
	fault api.Errno // what was first wrong
}

// Byte lays a byte down.
func (w *Writer) Byte(b byte) { w.lay(low(uint64(b), 1)) }

// Int lays a number down, in 8 bytes.
func (w *Writer) Int(n int64) { w.lay(low(uint64(n), 8)) }

// Count lays a number down, in 4 bytes.
func (w *Writer) Count(n int) {
	if n < 0 || int64(n) > math.MaxUint32 {
		w.fail(api.ErrArg)
		return
	}
	w.lay(low(uint64(n), 4))
}

// Text lays a text down.
func (w *Writer) Text(s string) {
	w.Count(len(s))
	w.lay(s)
}

// Texts lays texts down.
func (w *Writer) Texts(l []string) { layAll(w, l, w.Text) }

// Cell lays a cell down.
func (w *Writer) Cell(c api.Cell) {
	if !mayBe(c) {
		w.fail(api.ErrArg)
		return
	}
	w.Byte(byte(c.Kind))
	switch c.Kind {
	case api.Int:
		w.Int(c.Int)
	case api.Text:
		w.Text(c.Text)
	}
}

// Cells lays cells down.
func (w *Writer) Cells(l []api.Cell) { layAll(w, l, w.Cell) }

// Fact lays a fact down.
func (w *Writer) Fact(f api.Fact) {
	w.Texts(f.Dims)
	layAll(w, f.Meas, w.Int)
}

// Facts lays facts down.
func (w *Writer) Facts(l []api.Fact) { layAll(w, l, w.Fact) }

// Schema lays a schema down.
func (w *Writer) Schema(s api.Schema) {
	w.Texts(s.Dims)
	w.Texts(s.Meas)
}

// Done is all of it, or what was first wrong.
func (w *Writer) Done() (string, api.Errno) {
	if w == nil {
		return "", api.ErrArg
	}
	return string(w.data), w.fault
}

// layAll lays down how many things there are, and each.
func layAll[T any](w *Writer, things []T, one func(T)) {
	w.Count(len(things))
	for _, thing := range things {
		if w.stopped() {
			return
		}
		one(thing)
	}
}

// mayBe tells whether a cell has nothing that is not of its kind.
func mayBe(c api.Cell) bool {
	switch c.Kind {
	case api.Null:
		return c.Int == 0 && c.Text == ""
	case api.Int:
		return c.Text == ""
	case api.Text:
		return c.Int == 0
	}
	return false
}

// lay lays bytes down behind the others.
func (w *Writer) lay(data string) {
	if w.stopped() {
		return
	}
	if len(data) > api.MaxFrame-len(w.data) {
		w.fail(api.ErrSize)
		return
	}
	w.data = append(w.data, data...)
}

// fail makes an error of it, if there is none.
func (w *Writer) fail(e api.Errno) {
	if !w.stopped() {
		w.data, w.fault = nil, e
	}
}

// stopped tells whether nothing more is laid down.
func (w *Writer) stopped() bool { return w == nil || w.fault != api.OK }
