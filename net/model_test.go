package net

import (
	"fmt"
	"strings"
	"testing"

	"caisson/api"
)

// model says the same by other means: it keeps all connections that there ever were, and all that was sent on them, and counts.
type model []*wire

type wire struct {
	sent         [2]string // by the side that sent it
	moved, taken [2]int    // by the side that it is for
	shut, told   [2]bool
	cut          bool
}

func (w *wire) gone() bool {
	if w.cut {
		return w.told[0] && w.told[1]
	}
	return w.shut[0] && w.shut[1] && w.taken[1] == len(w.sent[0]) && w.taken[0] == len(w.sent[1])
}

func (m model) there() []int {
	there := []int{}
	for i, w := range m {
		if !w.gone() {
			there = append(there, i+1)
		}
	}
	return there
}

func (m *model) open() (int, api.Errno) {
	if len(m.there()) == 8 {
		return 0, api.ErrFull
	}
	*m = append(*m, &wire{})
	return len(*m), api.OK
}

// find is a connection, and why it may not be used; asked: by a side
func (m model) find(conn, side int, asked bool) (*wire, api.Errno) {
	if conn < 1 || conn > len(m) || m[conn-1].gone() || side>>1 != 0 {
		return nil, api.ErrConn
	}
	w := m[conn-1]
	if !w.cut {
		return w, api.OK
	}
	if asked {
		w.told[side] = true
	}
	return nil, api.ErrCut
}

func (m model) send(conn, side int, data string) (int, api.Errno) {
	w, e := m.find(conn, side, true)
	if w == nil {
		return 0, e
	}
	if w.shut[side] {
		return 0, api.ErrEnd
	}
	if room := 65536 + w.taken[1-side] - len(w.sent[side]); len(data) > room {
		data = data[:room]
	}
	w.sent[side] += data
	return len(data), api.OK
}

func (m model) move(conn, side, many int) (int, api.Errno) {
	w, e := m.find(conn, side, true)
	if w == nil {
		return 0, e
	}
	done := 0
	for done < many && w.moved[side] < len(w.sent[1-side]) {
		w.moved[side]++
		done++
	}
	return done, api.OK
}

func (m model) take(conn, side, many int) (string, api.Errno) {
	w, e := m.find(conn, side, true)
	if w == nil {
		return "", e
	}
	begin, sent := w.taken[side], w.sent[1-side]
	switch {
	case begin < w.moved[side]:
		for i := 0; i < many && w.taken[side] < w.moved[side]; i++ {
			w.taken[side]++
		}
		return sent[begin:w.taken[side]], api.OK
	case w.shut[1-side] && begin == len(sent):
		return "", api.ErrEnd
	}
	return "", api.ErrAgain
}

func (m model) end(conn, side int) api.Errno {
	w, e := m.find(conn, side, true)
	if w == nil {
		return e
	}
	if w.shut[side] {
		return api.ErrEnd
	}
	w.shut[side] = true
	return api.OK
}

func (m model) sever(conn int) api.Errno {
	w, e := m.find(conn, 0, false)
	if w != nil {
		w.cut = true
	}
	return e
}

func (m model) waits(conn, side int) string {
	w, _ := m.find(conn, side, false)
	if w == nil {
		return "0 0"
	}
	return fmt.Sprint(len(w.sent[1-side])-w.moved[side], " ", w.moved[side]-w.taken[side])
}

func (m model) all() string {
	s := fmt.Sprint(m.there())
	for _, conn := range m.there() {
		s += " " + m.waits(conn, 0) + "," + m.waits(conn, 1)
	}
	return s
}

// TestModel does the same calls to a net and to the model: each number of a short rule says which.
func TestModel(t *testing.T) {
	seed := uint64(1)
	draw := func(n int) int {
		seed = seed*6364136223846793005 + 1442695040888963407
		return int(seed>>33) % n
	}
	piece := strings.Repeat("0123456789abc", 3000)
	for round := range 300 {
		n, m := New(), &model{}
		for i := range 300 {
			got, want := "", ""
			conn, side, many := len(*m)-draw(9), draw(2), draw(9)-1
			if draw(30) == 0 {
				side = draw(7) - 3
			}
			if draw(20) == 0 {
				many *= 10000
			}
			what := draw(24)
			switch what {
			case 0, 1, 2:
				got, want = told(n.Open()), told(m.open())
			case 3, 4, 5, 6, 7, 8:
				data := piece[i : i+draw(8)]
				if draw(20) == 0 {
					data = piece[i:]
				}
				got, want = told(n.Send(conn, side, data)), told(m.send(conn, side, data))
			case 9, 10, 11, 12, 13:
				got, want = told(n.Move(conn, side, many)), told(m.move(conn, side, many))
			case 14, 15, 16, 17, 18, 19, 20:
				got, want = told(n.Take(conn, side, many)), told(m.take(conn, side, many))
			case 21, 22:
				got, want = told(0, n.Shut(conn, side)), told(0, m.end(conn, side))
			default:
				got, want = told(0, n.Cut(conn)), told(0, m.sever(conn))
			}
			got, want = got+" "+waits(n, conn, side), want+" "+m.waits(conn, side)
			if got != want || all(n) != m.all() {
				t.Fatalf("round %d, call %d (%d) of %d, %d, %d: %.300s %s, want %.300s %s", round, i, what, conn, side, many, got, all(n), want, m.all())
			}
		}
	}
}
