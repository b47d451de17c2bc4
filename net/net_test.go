package net

import (
	"fmt"
	"math"
	"strings"
	"testing"

	"caisson/api"
)

func is(t *testing.T, what string, got, want any) {
	t.Helper()
	if g, w := fmt.Sprint(got), fmt.Sprint(want); g != w {
		t.Errorf("%s: %.200s, want %.200s", what, g, w)
	}
}

// what a call told: what it counted or took, and its error's number
func told[T any](v T, e api.Errno) string { return fmt.Sprintf("%v/%d", v, int(e)) }

func waits(n *Net, conn, side int) string {
	moving, arrived := n.Waits(conn, side)
	return fmt.Sprint(moving, " ", arrived)
}

// all that can be seen of a net without a change of it
func all(n *Net) string {
	s := fmt.Sprint(n.Conns())
	for _, conn := range n.Conns() {
		s += " " + waits(n, conn, 0) + "," + waits(n, conn, 1)
	}
	return s
}

// a net with so many connections
func opened(t *testing.T, many int) *Net {
	t.Helper()
	n := New()
	for i := range many {
		is(t, "Open", told(n.Open()), fmt.Sprint(i+1, "/0"))
	}
	return n
}

// each call of one side
var calls = []struct {
	what string
	call func(n *Net, conn, side int) string
}{
	{"Send", func(n *Net, conn, side int) string { return told(n.Send(conn, side, "x")) }},
	{"Send of nothing", func(n *Net, conn, side int) string { return told(n.Send(conn, side, "")) }},
	{"Move", func(n *Net, conn, side int) string { return told(n.Move(conn, side, 1)) }},
	{"Move of none", func(n *Net, conn, side int) string { return told(n.Move(conn, side, -1)) }},
	{"Take", func(n *Net, conn, side int) string { s, e := n.Take(conn, side, 1); return told(len(s), e) }},
	{"Take of none", func(n *Net, conn, side int) string { s, e := n.Take(conn, side, 0); return told(len(s), e) }},
	{"Shut", func(n *Net, conn, side int) string { return told(0, n.Shut(conn, side)) }},
}

// numbers of which none is a side
var noSides = []int{math.MinInt, -2, -1, 2, 3, math.MaxInt}

func TestExamples(t *testing.T) {
	n := New()
	is(t, "Open", told(n.Open()), "1/0")
	is(t, "Send", told(n.Send(1, 0, "hello")), "5/0")
	is(t, "on the way", told(n.Take(1, 1, 9)), "/15")
	is(t, "Move", told(n.Move(1, 1, 3)), "3/0")
	is(t, "Take", told(n.Take(1, 1, 9)), "hel/0")
	is(t, "Waits", waits(n, 1, 1), "2 0")
	is(t, "Shut", n.Shut(1, 0), api.OK)
	is(t, "Send", told(n.Send(1, 0, "x")), "0/16")
	is(t, "Move", told(n.Move(1, 1, 9)), "2/0")
	is(t, "Take", told(n.Take(1, 1, 9)), "lo/0")
	is(t, "the end", told(n.Take(1, 1, 9)), "/16")
	is(t, "Cut", n.Cut(1), api.OK)
	is(t, "Send", told(n.Send(1, 1, "x")), "0/17")
	is(t, "Take", told(n.Take(1, 0, 1)), "/17")
	is(t, "Conns", len(n.Conns()), 0)
}

func TestP21Opened(t *testing.T) {
	n := New()
	if n == nil {
		t.Fatal("New is nil")
	}
	is(t, "no connections", len(n.Conns()), 0)
	for i := 1; i <= api.MaxConns; i++ {
		is(t, "Open", told(n.Open()), fmt.Sprint(i, "/0"))
	}
	is(t, "full", told(n.Open()), "0/12")
	is(t, "as it was", n.Conns(), "[1 2 3 4 5 6 7 8]")
	n.Shut(3, 0)
	is(t, "shut by one side", told(n.Open()), "0/12")
	n.Send(3, 1, "x")
	n.Shut(3, 1)
	is(t, "not all was taken", told(n.Open()), "0/12")
	n.Move(3, 0, 1)
	n.Take(3, 0, 1)
	is(t, "one went, its number is none again", told(n.Open()), "9/0")
	is(t, "a number that wasn't told is not used up", n.Conns(), "[1 2 4 5 6 7 8 9]")
	is(t, "full again", told(n.Open()), "0/12")
}

func TestP21CutOnesAreThere(t *testing.T) {
	n := opened(t, api.MaxConns)
	for conn := range api.MaxConns {
		n.Cut(conn + 1)
	}
	is(t, "all are cut", told(n.Open()), "0/12")
	n.Send(8, 0, "")
	is(t, "one side knows", told(n.Open()), "0/12")
	n.Send(8, 1, "")
	is(t, "both know", told(n.Open()), "9/0")
	is(t, "the rest are there", n.Conns(), "[1 2 3 4 5 6 7 9]")
}

func TestP21NumbersAreNeverAgain(t *testing.T) {
	n := New()
	for i := 1; i <= 100; i++ {
		is(t, "Open", told(n.Open()), fmt.Sprint(i, "/0"))
		is(t, "alone", n.Conns(), fmt.Sprint([]int{i}))
		n.Shut(i, i%2)
		n.Shut(i, 1-i%2)
		is(t, "gone", len(n.Conns()), 0)
	}
}

func TestP22Send(t *testing.T) {
	n := opened(t, 2)
	is(t, "Send", told(n.Send(1, 0, "abc")), "3/0")
	is(t, "to the other side of that one alone", all(n), "[1 2] 0 0,3 0 0 0,0 0")
	is(t, "nothing", told(n.Send(1, 0, "")), "0/0")
	is(t, "behind the others", told(n.Send(1, 0, "de")), "2/0")
	is(t, "the other way", told(n.Send(1, 1, "\x00\xff\n世")), "6/0")
	is(t, "each on its way", all(n), "[1 2] 6 0,5 0 0 0,0 0")
	n.Move(1, 0, 9)
	n.Move(1, 1, 9)
	is(t, "in order", told(n.Take(1, 1, 9)), "abcde/0")
	is(t, "any bytes", told(n.Take(1, 0, 9)), "\x00\xff\n世/0")
}

func TestP22Room(t *testing.T) {
	const most = api.MaxPipe
	piece := strings.Repeat("x", most-3)
	n := opened(t, 1)
	is(t, "nearly all", told(n.Send(1, 0, piece)), fmt.Sprint(most-3, "/0"))
	is(t, "just the beginning", told(n.Send(1, 0, "abcdef")), "3/0")
	is(t, "no room", told(n.Send(1, 0, "g")), "0/0")
	is(t, "nor for nothing", told(n.Send(1, 0, "")), "0/0")
	is(t, "the other way has its own", told(n.Send(1, 1, piece+piece)), fmt.Sprint(most, "/0"))
	is(t, "Move makes none", told(n.Move(1, 1, most+1)), fmt.Sprint(most, "/0"))
	is(t, "no room still", told(n.Send(1, 0, "g")), "0/0")
	is(t, "what has arrived counts", waits(n, 1, 1), fmt.Sprint(0, " ", most))
	s, e := n.Take(1, 1, most-2)
	is(t, "all but two", told(s == piece+"a", e), "true/0")
	is(t, "Take makes room", told(n.Send(1, 0, piece+piece)), fmt.Sprint(most-2, "/0"))
	is(t, "what was there comes first", told(n.Take(1, 1, most)), "bc/0")
	is(t, "some of each", told(n.Move(1, 1, 5)), "5/0")
	is(t, "two are free", waits(n, 1, 1)+" "+told(n.Send(1, 0, "12345")), fmt.Sprint(most-7, " 5 2/0"))
	n = opened(t, 1)
	is(t, "much more than there is room for", told(n.Send(1, 1, strings.Repeat("y", 1<<22))), fmt.Sprint(most, "/0"))
}

func TestP22Move(t *testing.T) {
	n := opened(t, 1)
	n.Send(1, 1, "abcdefgh")
	for _, many := range []int{math.MinInt, -1, 0} {
		is(t, "none", told(n.Move(1, 0, many)), "0/0")
	}
	is(t, "so none has arrived", waits(n, 1, 0), "8 0")
	is(t, "to the other side nothing is", told(n.Move(1, 1, 3)), "0/0")
	is(t, "some", told(n.Move(1, 0, 3)), "3/0")
	is(t, "three", waits(n, 1, 0), "5 3")
	is(t, "some more", told(n.Move(1, 0, 1)), "1/0")
	is(t, "the first ones", told(n.Take(1, 0, 9)), "abcd/0")
	is(t, "all, if there are fewer", told(n.Move(1, 0, 5)), "4/0")
	is(t, "none is left", told(n.Move(1, 0, math.MaxInt)), "0/0")
	n.Send(1, 1, "ij")
	is(t, "all", told(n.Move(1, 0, math.MaxInt)), "2/0")
	is(t, "behind those that have arrived", told(n.Take(1, 0, 9)), "efghij/0")
	n.Send(1, 1, "k")
	n.Shut(1, 1)
	n.Shut(1, 0)
	is(t, "behind the end too", told(n.Move(1, 0, 9)), "1/0")
}

func TestP22Take(t *testing.T) {
	n := opened(t, 1)
	is(t, "nothing was sent", told(n.Take(1, 1, 9)), "/15")
	n.Send(1, 0, "abcdefgh")
	for _, many := range []int{math.MinInt, -1, 0, 1, math.MaxInt} {
		is(t, "nothing has arrived", told(n.Take(1, 1, many)), "/15")
	}
	n.Move(1, 1, 6)
	is(t, "one's own bytes don't come back", told(n.Take(1, 0, 9)), "/15")
	for _, many := range []int{math.MinInt, -1, 0} {
		is(t, "none", told(n.Take(1, 1, many)), "/0")
	}
	is(t, "so all are there", waits(n, 1, 1), "2 6")
	is(t, "the first ones", told(n.Take(1, 1, 2)), "ab/0")
	is(t, "the next one", told(n.Take(1, 1, 1)), "c/0")
	is(t, "those that have arrived alone", told(n.Take(1, 1, math.MaxInt)), "def/0")
	is(t, "two are on the way", waits(n, 1, 1)+" "+told(n.Take(1, 1, 1)), "2 0 /15")
}

func TestP22TakeAtTheEnd(t *testing.T) {
	n := opened(t, 1)
	n.Send(1, 0, "abc")
	n.Shut(1, 0)
	is(t, "on the way", told(n.Take(1, 1, 9)), "/15")
	n.Move(1, 1, 1)
	is(t, "none of those that have arrived", told(n.Take(1, 1, -1)), "/0")
	is(t, "what has arrived", told(n.Take(1, 1, 9)), "a/0")
	is(t, "two are on the way still", told(n.Take(1, 1, 9)), "/15")
	n.Move(1, 1, 9)
	is(t, "not all", told(n.Take(1, 1, 1)), "b/0")
	is(t, "none, and not the end", told(n.Take(1, 1, 0)), "/0")
	is(t, "all", told(n.Take(1, 1, 1)), "c/0")
	for _, many := range []int{math.MinInt, 0, 1, math.MaxInt} {
		is(t, "the end", told(n.Take(1, 1, many)), "/16")
	}
	is(t, "not of the other way", told(n.Take(1, 0, 1)), "/15")
	is(t, "which is open", told(n.Send(1, 1, "d")), "1/0")
}

func TestP22NoSuch(t *testing.T) {
	n := opened(t, 3)
	n.Shut(2, 0)
	n.Shut(2, 1)
	n.Cut(3)
	before := all(n)
	for _, c := range calls {
		for _, side := range noSides {
			is(t, c.what+" of no side", c.call(n, 1, side), "0/14")
			is(t, c.what+" of no side of a cut one", c.call(n, 3, side), "0/14")
		}
		for _, conn := range []int{math.MinInt, -1, 0, 2, 4, math.MaxInt} {
			is(t, c.what+" of no connection", c.call(n, conn, 0), "0/14")
			is(t, c.what+" of none of both", c.call(n, conn, 2), "0/14")
		}
	}
	is(t, "as it was", all(n), before)
}

func TestP22ErrorsInOrder(t *testing.T) {
	n := opened(t, 2)
	n.Send(1, 1, "abc")
	n.Move(1, 0, 1)
	n.Shut(1, 0)
	is(t, "ErrEnd of Send", told(n.Send(1, 0, "x"))+" "+told(n.Send(1, 0, "")), "0/16 0/16")
	is(t, "as it was", all(n), "[1 2] 2 1,0 0 0 0,0 0")
	n.Send(2, 0, strings.Repeat("x", api.MaxPipe))
	n.Shut(2, 0)
	is(t, "ErrEnd ahead of the room", told(n.Send(2, 0, "x")), "0/16")
	n.Cut(1)
	n.Cut(2)
	is(t, "ErrCut ahead of ErrEnd", told(n.Send(1, 0, "x")), "0/17")
	is(t, "also of Shut", told(0, n.Shut(1, 0)), "0/17")
	is(t, "also of Take", told(n.Take(2, 1, 1)), "/17")
}

func TestP23Shut(t *testing.T) {
	n := opened(t, 2)
	n.Send(1, 1, "to the client")
	is(t, "Shut", n.Shut(1, 1), api.OK)
	is(t, "again", n.Shut(1, 1), api.ErrEnd)
	is(t, "it sends nothing more", told(n.Send(1, 1, "x")), "0/16")
	is(t, "what it sent stays", all(n), "[1 2] 13 0,0 0 0 0,0 0")
	is(t, "the other side sends", told(n.Send(1, 0, "to the server")), "13/0")
	n.Move(1, 1, 99)
	is(t, "and it takes", told(n.Take(1, 1, 99)), "to the server/0")
	is(t, "nothing more yet", told(n.Take(1, 1, 99)), "/15")
	is(t, "the other connection is open", told(n.Send(2, 1, "x")), "1/0")
}

func TestP23EndOfBoth(t *testing.T) {
	for first := range 2 {
		n := opened(t, 2)
		n.Shut(1, first)
		is(t, "one has shut", n.Conns(), "[1 2]")
		is(t, "the other has", n.Shut(1, 1-first), api.OK)
		is(t, "nothing was to be taken", n.Conns(), "[2]")
		for _, c := range calls {
			is(t, c.what, c.call(n, 1, first), "0/14")
		}
		is(t, "Cut", n.Cut(1), api.ErrConn)
	}
	for side := range 2 {
		n := opened(t, 1)
		n.Send(1, 1-side, "abc")
		n.Shut(1, side)
		n.Shut(1, 1-side)
		is(t, "on the way", n.Conns(), "[1]")
		is(t, "the way back has ended", told(n.Take(1, 1-side, 9)), "/16")
		is(t, "both have shut", fmt.Sprint(int(n.Shut(1, 0)), int(n.Shut(1, 1))), "16 16")
		n.Move(1, side, 9)
		is(t, "arrived", n.Conns(), "[1]")
		is(t, "some", told(n.Take(1, side, 2)), "ab/0")
		is(t, "one is left", n.Conns(), "[1]")
		is(t, "the last one", told(n.Take(1, side, 2)), "c/0")
		is(t, "gone", told(n.Take(1, side, 2))+told(n.Take(1, 1-side, 2)), "/14/14")
	}
	n := opened(t, 1)
	for side := range 2 {
		n.Send(1, side, "x")
		n.Move(1, 1-side, 1)
		n.Shut(1, side)
	}
	n.Take(1, 0, 1)
	is(t, "one way is empty", n.Conns(), "[1]")
	n.Take(1, 1, 1)
	is(t, "both are", len(n.Conns()), 0)
}

func TestP23Cut(t *testing.T) {
	n := opened(t, 2)
	for side := range 2 {
		n.Send(1, side, "abcdef")
		n.Move(1, 1-side, 3)
		n.Send(2, side, "xy")
		n.Move(2, 1-side, 1)
	}
	is(t, "Cut", n.Cut(1), api.OK)
	is(t, "all bytes are gone, of that one alone", all(n), "[1 2] 0 0,0 0 1 1,1 1")
	for range 3 {
		is(t, "again", n.Cut(1), api.ErrCut)
	}
	is(t, "by that no side is told", n.Conns(), "[1 2]")
	for _, conn := range []int{math.MinInt, -1, 0, 3, math.MaxInt} {
		is(t, "no connection", n.Cut(conn), api.ErrConn)
	}
	is(t, "one side", told(n.Take(1, 1, 1)), "/17")
	is(t, "still cut", n.Cut(1), api.ErrCut)
	is(t, "the other side", told(n.Take(1, 0, 1)), "/17")
	is(t, "gone", n.Cut(1), api.ErrConn)
}

// whichever calls tell both sides, once each or more often, in whichever order
func TestP23CutOnesGo(t *testing.T) {
	for _, first := range calls {
		for _, second := range calls {
			for side := range 2 {
				what := fmt.Sprint(first.what, " of ", side, ", then ", second.what)
				n := opened(t, 2)
				n.Send(1, side, "abc")
				n.Shut(1, side)
				n.Cut(1)
				for range 3 {
					is(t, what, first.call(n, 1, side), "0/17")
					is(t, what, fmt.Sprint(n.Conns(), waits(n, 1, side)), "[1 2]0 0")
				}
				is(t, what, second.call(n, 1, 1-side), "0/17")
				is(t, what, n.Conns(), "[2]")
				is(t, what, first.call(n, 1, side)+second.call(n, 1, 1-side), "0/140/14")
			}
		}
	}
}

// what has gone by its end is not cut, and what was told ahead of the cut doesn't count
func TestP23CutAtTheEnd(t *testing.T) {
	n := opened(t, 1)
	n.Shut(1, 0)
	n.Shut(1, 0)
	n.Take(1, 1, 1)
	n.Send(1, 1, "x")
	n.Shut(1, 1)
	is(t, "both have shut, one byte is there", n.Cut(1), api.OK)
	is(t, "it has not gone by that", n.Conns(), "[1]")
	is(t, "one side", told(n.Move(1, 0, 1)), "0/17")
	is(t, "is not both", n.Conns(), "[1]")
	is(t, "the other one", told(n.Move(1, 1, 1)), "0/17")
	is(t, "both", len(n.Conns()), 0)
}

func TestP24Waits(t *testing.T) {
	n := opened(t, 2)
	n.Send(2, 0, "abcde")
	n.Move(2, 1, 2)
	n.Send(2, 1, "xyz")
	n.Move(2, 0, 3)
	is(t, "to the server", waits(n, 2, 1), "3 2")
	is(t, "to the client", waits(n, 2, 0), "0 3")
	is(t, "of the other one", waits(n, 1, 0)+","+waits(n, 1, 1), "0 0,0 0")
	n.Take(2, 1, 1)
	is(t, "what was taken waits no more", waits(n, 2, 1), "3 1")
	for _, side := range noSides {
		is(t, "no such side", waits(n, 2, side), "0 0")
	}
	for _, conn := range []int{math.MinInt, -1, 0, 3, math.MaxInt} {
		is(t, "no such connection", waits(n, conn, 0)+","+waits(n, conn, 2), "0 0,0 0")
	}
	n.Shut(2, 0)
	is(t, "as it was, shut", waits(n, 2, 1)+","+waits(n, 2, 0), "3 1,0 3")
	n.Cut(2)
	is(t, "none, cut", waits(n, 2, 1)+","+waits(n, 2, 0), "0 0,0 0")
	for range 9 {
		waits(n, 2, 0)
		waits(n, 2, 1)
	}
	is(t, "asking is no telling", n.Conns(), "[1 2]")
}

func TestP24Conns(t *testing.T) {
	n := opened(t, 5)
	list := n.Conns()
	is(t, "rising", list, "[1 2 3 4 5]")
	n.Cut(4)
	n.Shut(2, 0)
	n.Shut(2, 1)
	is(t, "what was told stays", list, "[1 2 3 4 5]")
	is(t, "cut ones too", n.Conns(), "[1 3 4 5]")
	clear(n.Conns())
	is(t, "the list is its owner's", n.Conns(), "[1 3 4 5]")
	_ = append(n.Conns()[:1], 99)
	is(t, "each list is a new one", n.Conns(), "[1 3 4 5]")
	is(t, "it is still there", told(n.Send(3, 0, "x")), "1/0")
}

// what is taken is what was sent, however it is cut into pieces
func TestP25AllAtTheEnd(t *testing.T) {
	for _, size := range []struct{ send, move, take int }{{1, 1, 1}, {7, 3, 2}, {2, 5, 3}, {1000, 999, 998}, {1, 9, 4}, {api.MaxPipe + 9, 30000, 77}} {
		n := opened(t, 1)
		want := make([]byte, 3*api.MaxPipe)
		for i := range want {
			want[i] = byte(i ^ i>>8 ^ i>>13)
		}
		text, sent, got := string(want), 0, strings.Builder{}
		for end := false; !end; {
			if sent < len(text) {
				many, _ := n.Send(1, 1, text[sent:min(sent+size.send, len(text))])
				sent += many
			} else {
				n.Shut(1, 1)
			}
			n.Move(1, 0, size.move)
			data, e := n.Take(1, 0, size.take)
			got.WriteString(data)
			end = e == api.ErrEnd
		}
		is(t, fmt.Sprint("all of it, in pieces of ", size), got.String() == text, true)
	}
}

func TestNil(t *testing.T) {
	var n *Net
	is(t, "Open", told(n.Open()), "0/1")
	for _, c := range calls {
		is(t, c.what, c.call(n, 1, 0), "0/1")
		is(t, "ErrArg ahead of ErrConn", c.call(n, 0, 2), "0/1")
	}
	is(t, "Cut", n.Cut(1), api.ErrArg)
	is(t, "Waits", waits(n, 1, 0), "0 0")
	is(t, "Conns", len(n.Conns()), 0)
}

func TestZero(t *testing.T) {
	n := new(Net)
	is(t, "no connections", len(n.Conns()), 0)
	is(t, "Waits", waits(n, 1, 0), "0 0")
	for _, c := range calls {
		is(t, c.what, c.call(n, 1, 0), "0/14")
	}
	is(t, "Cut", n.Cut(1), api.ErrConn)
	is(t, "Open", told(n.Open()), "1/0")
	is(t, "Send", told(n.Send(1, 0, "abc")), "3/0")
	is(t, "there", all(n), "[1] 0 0,3 0")
}

// one net knows nothing of another one
func TestApart(t *testing.T) {
	a, b := opened(t, 2), opened(t, 1)
	a.Send(1, 0, "abc")
	a.Cut(2)
	is(t, "a number of its own", told(b.Open()), "2/0")
	is(t, "as it was", all(b), "[1 2] 0 0,0 0 0 0,0 0")
	b.Cut(1)
	is(t, "also the first one", all(a), "[1 2] 0 0,3 0 0 0,0 0")
}
