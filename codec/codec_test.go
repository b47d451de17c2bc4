package codec

import (
	"fmt"
	"hash/crc32"
	"strings"
	"sync"
	"testing"

	"caisson/api"
)

func is(t *testing.T, what string, got, want any) {
	t.Helper()
	if g, w := fmt.Sprint(got), fmt.Sprint(want); g != w {
		t.Errorf("%s: %.300s, want %.300s", what, g, w)
	}
}

// bytes as hexadecimal digits, and an error's number
func hex(s string, e api.Errno) string {
	return strings.TrimSpace(fmt.Sprintf("% x /%d", s, int(e)))
}

// what Unframe told: the body, the frame's bytes, the error's number
func unframed(s string) string {
	body, many, e := Unframe(s)
	return fmt.Sprintf("%q %d /%d", body, many, int(e))
}

func framed(t *testing.T, body string) string {
	t.Helper()
	f, e := Frame(body)
	is(t, "Frame", e, api.OK)
	return f
}

// a text of so many bytes, of all kinds
func text(many int) string {
	data := make([]byte, many)
	for i := range data {
		data[i] = byte(i*i + i>>3 + 7*many)
	}
	return string(data)
}

// the text with one bit of it turned
func turned(s string, at, bit int) string {
	data := []byte(s)
	data[at] ^= 1 << bit
	return string(data)
}

// the check, step by step as the chapter's words say
func check(s string) uint32 {
	c := uint32(0xffffffff)
	for _, b := range []byte(s) {
		c ^= uint32(b)
		for range 8 {
			if c&1 == 1 {
				c = c>>1 ^ 0xedb88320
			} else {
				c >>= 1
			}
		}
	}
	return c ^ 0xffffffff
}

func TestExamples(t *testing.T) {
	is(t, "Sum", fmt.Sprintf("%x", Sum("123456789")), "cbf43926")
	is(t, "Frame", hex(Frame("hi")), "02 00 00 00 ac 2a 93 d8 68 69 /0")
	f := framed(t, "hi")
	is(t, "three bytes more", unframed(f+"abc"), `"hi" 10 /0`)
	is(t, "the last byte turned", unframed(f[:9]+"j"), `"" 0 /21`)
	is(t, "the first nine", unframed(f[:9]), `"" 0 /20`)
	w := &Writer{}
	w.Byte(7)
	w.Int(-2)
	w.Text("ab")
	is(t, "Writer", hex(w.Done()), "07 fe ff ff ff ff ff ff ff 02 00 00 00 61 62 /0")
	r := Read("\x05\x00\x00\x00\x61")
	is(t, "Text", r.Text(), "")
	is(t, "Done", r.Done(), api.ErrShort)
}

func TestP41Sum(t *testing.T) {
	is(t, "of nothing", Sum(""), 0)
	for b := range 256 {
		s := string([]byte{byte(b)})
		is(t, fmt.Sprint("of the byte ", b), Sum(s), check(s))
	}
	for many := range 300 {
		s := text(many)
		is(t, fmt.Sprint("of bytes ", many), Sum(s), check(s))
		is(t, fmt.Sprint("by the library ", many), Sum(s), crc32.ChecksumIEEE([]byte(s)))
	}
	for _, s := range []string{"\x00", "\x00\x00\x00\x00", "\xff\xff\xff\xff", "ä€", strings.Repeat("\x00", 70000), text(1 << 20)} {
		is(t, "of "+fmt.Sprint(len(s)), Sum(s), crc32.ChecksumIEEE([]byte(s)))
	}
}

func TestP41Table(t *testing.T) {
	var none *Table
	is(t, "of a nil one", none.Sum("123456789"), 0)
	is(t, "of a nil one, of nothing", none.Sum(""), 0)
	var a Table
	for range 3 {
		is(t, "of a zero one, again and again", a.Sum("123456789"), uint32(0xcbf43926))
		is(t, "of nothing", a.Sum(""), 0)
	}
	b := &Table{}
	is(t, "first of nothing", b.Sum(""), 0)
	for many := range 300 {
		is(t, fmt.Sprint("of bytes ", many), b.Sum(text(many)), Sum(text(many)))
	}
}

func TestP41TableOnce(t *testing.T) {
	var a Table
	a.Sum("")
	is(t, "made when it is first asked", a.rows[1] != 0, true)
	a.rows = [16]uint32{}
	a.Sum("")
	is(t, "and not made again", a.rows[1], 0)
}

func TestP41TableOfMany(t *testing.T) {
	var a Table
	var all sync.WaitGroup
	sums := make([]uint32, 16)
	for i := range sums {
		all.Go(func() { sums[i] = a.Sum(text(i)) })
	}
	all.Wait()
	for i, sum := range sums {
		is(t, "of one that several ask first", sum, check(text(i)))
	}
}

func TestP42Frame(t *testing.T) {
	is(t, "of nothing", hex(Frame("")), "00 00 00 00 00 00 00 00 /0")
	for _, many := range []int{0, 1, 7, 8, 255, 256, 65535, 65536} {
		body := text(many)
		f, e := Frame(body)
		is(t, "Frame", e, api.OK)
		is(t, "eight bytes more", len(f), many+8)
		sum := check(body)
		want := []byte{byte(many), byte(many >> 8), byte(many >> 16), 0, byte(sum), byte(sum >> 8), byte(sum >> 16), byte(sum >> 24)}
		is(t, "its head", []byte(f[:8]), want)
		is(t, "its body", f[8:] == body, true)
	}
	for _, many := range []int{65537, 65538, 1 << 17, 1 << 24} {
		is(t, "too long", hex(Frame(text(many))), "/23")
	}
}

func TestP42Unframe(t *testing.T) {
	for _, many := range []int{0, 1, 7, 8, 255, 256, 65535, 65536} {
		body := text(many)
		f := framed(t, body)
		for _, behind := range []string{"", "\x00", "abc", f} {
			got, long, e := Unframe(f + behind)
			is(t, "Unframe", fmt.Sprint(got == body, long, int(e)), fmt.Sprint(true, many+8, 0))
		}
	}
}

func TestP42UnframeShort(t *testing.T) {
	f := framed(t, "a body")
	for many := range len(f) {
		is(t, fmt.Sprint("cut to ", many), unframed(f[:many]), `"" 0 /20`)
	}
	for many := range 8 {
		is(t, fmt.Sprint("not eight bytes, though the count is too great: ", many), unframed(strings.Repeat("\xff", many)), `"" 0 /20`)
	}
	long := framed(t, text(65536))
	is(t, "the greatest, but one byte", unframed(long[:len(long)-1]), `"" 0 /20`)
	is(t, "no whole body, and another check", unframed(turned(f, 5, 0)[:13]), `"" 0 /20`)
	is(t, "the greatest count, and nothing", unframed("\x00\x00\x01\x00\x00\x00\x00\x00"), `"" 0 /20`)
}

func TestP42UnframeSize(t *testing.T) {
	for _, count := range []string{"\x01\x00\x01\x00", "\x00\x00\x02\x00", "\x00\x00\x00\x01", "\x00\x00\x00\x80", "\xff\xff\xff\xff"} {
		is(t, "above 65536", unframed(count+"\x00\x00\x00\x00"), `"" 0 /23`)
		is(t, "above 65536, with bytes", unframed(count+text(1<<17)), `"" 0 /23`)
	}
	body := text(65537)
	sum := check(body)
	is(t, "a whole one that is too long", unframed("\x01\x00\x01\x00"+string([]byte{byte(sum), byte(sum >> 8), byte(sum >> 16), byte(sum >> 24)})+body), `"" 0 /23`)
}

func TestP42UnframeCheck(t *testing.T) {
	for _, body := range []string{"", "h", "hi", text(100)} {
		f := framed(t, body)
		for at := 4; at < len(f); at++ {
			for bit := range 8 {
				is(t, fmt.Sprint("a bit turned: ", at, " ", bit), unframed(turned(f, at, bit)+"more"), `"" 0 /21`)
			}
		}
	}
}

func TestP45FrameTurned(t *testing.T) {
	f := framed(t, text(40))
	for at := 8; at < len(f); at++ {
		for b := range 256 {
			data := []byte(f)
			data[at] = byte(b)
			want := `"" 0 /21`
			if byte(b) == f[at] {
				want = unframed(f)
			}
			is(t, fmt.Sprint("another byte: ", at, " ", b), unframed(string(data)), want)
		}
	}
}

func TestP45FramesBehindOneAnother(t *testing.T) {
	all, bodies := "", []string{"a", "", "bc", text(300), "d"}
	for _, body := range bodies {
		all += framed(t, body)
	}
	for _, want := range bodies {
		body, many, e := Unframe(all)
		is(t, "one of several", fmt.Sprintf("%q %d", body, int(e)), fmt.Sprintf("%q 0", want))
		all = all[many:]
	}
	is(t, "nothing is left", unframed(all), `"" 0 /20`)
}
