package codec

import "caisson/api"

// How many bytes a thing has at least: so a count can't ask for more things than there are bytes for.
const (
	leastByte = 1
	leastText = 4 // a count
	leastCell = 1 // a kind
	leastInt  = 8
	leastFact = 8 // two counts
)

// Reader takes things up again; with the first error it has nothing more.
type Reader struct {
	rest  string
	fault api.Errno // what was first wrong
}

// Read is one of a text.
func Read(s string) *Reader { return &Reader{rest: s} }

// Byte takes a byte up.
func (r *Reader) Byte() byte { return byte(number(r.take(1))) }

// Int takes a number of 8 bytes up.
func (r *Reader) Int() int64 { return int64(number(r.take(8))) }

// Count takes a number of 4 bytes up, that is at most so great.
func (r *Reader) Count(most int) int {
	n := int64(number(r.take(4)))
	if n > int64(most) {
		r.Fail(api.ErrSize)
		return 0
	}
	return told(r, int(n))
}

// Text takes a text up.
func (r *Reader) Text() string { return r.take(r.many(leastByte)) }

// Texts takes texts up.
func (r *Reader) Texts() []string { return several(r, leastText, r.Text) }

// Cell takes a cell up.
func (r *Reader) Cell() api.Cell {
	c := api.Cell{Kind: int(r.Byte())}
	switch c.Kind {
	case api.Null:
	case api.Int:
		c.Int = r.Int()
	case api.Text:
		c.Text = r.Text()
	default:
		r.Fail(api.ErrForm)
	}
	return told(r, c)
}

// Cells takes cells up.
func (r *Reader) Cells() []api.Cell { return several(r, leastCell, r.Cell) }

// Fact takes a fact up.
func (r *Reader) Fact() api.Fact {
	dims := r.Texts()
	meas := several(r, leastInt, r.Int)
	return told(r, api.Fact{Dims: dims, Meas: meas})
}

// Facts takes facts up.
func (r *Reader) Facts() []api.Fact { return several(r, leastFact, r.Fact) }

// Schema takes a schema up.
func (r *Reader) Schema() api.Schema {
	dims := r.Texts()
	meas := r.Texts()
	return told(r, api.Schema{Dims: dims, Meas: meas})
}

// Left is how many bytes are left.
func (r *Reader) Left() int {
	if r == nil {
		return 0
	}
	return len(r.rest)
}

// Fail makes an error of it, if there is none.
func (r *Reader) Fail(e api.Errno) {
	if e != api.OK && !r.stopped() {
		r.rest, r.fault = "", e
	}
}

// Done is what was first wrong: ErrForm, if nothing was, and bytes are left.
func (r *Reader) Done() api.Errno {
	if r == nil {
		return api.ErrArg
	}
	if r.fault == api.OK && r.rest != "" {
		return api.ErrForm
	}
	return r.fault
}

// several takes up how many things there are, and each, by the call that takes one.
func several[T any](r *Reader, least int, one func() T) []T {
	things := []T{}
	for range r.many(least) {
		things = append(things, one())
		if r.stopped() {
			break
		}
	}
	return told(r, things)
}

// told is a thing that was taken up; the zero one, if something was wrong.
func told[T any](r *Reader, thing T) T {
	if r.stopped() {
		var none T
		return none
	}
	return thing
}

// many takes up how many things there are, of so many bytes each at least.
func (r *Reader) many(least int) int {
	n := number(r.take(4))
	if n > uint64(r.Left()/least) {
		r.Fail(api.ErrShort)
		return 0
	}
	return int(n)
}

// take takes so many bytes; none, if there are not so many.
func (r *Reader) take(many int) string {
	if r.stopped() {
		return ""
	}
	if len(r.rest) < many {
		r.Fail(api.ErrShort)
		return ""
	}
	data := r.rest[:many]
	r.rest = r.rest[many:]
	return data
}

// stopped tells whether there is nothing more to take.
func (r *Reader) stopped() bool { return r == nil || r.fault != api.OK }
