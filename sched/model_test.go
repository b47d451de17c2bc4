package sched

import (
	"fmt"
	"math"
	"slices"
	"testing"

	"caisson/api"
)

// model says the same by other means: one line of all that wait, in the order in which they came, and who is there and who holds what as lists of pairs.
type model struct {
	last   int
	tasks  []int
	picked []int    // a number each time it was picked
	holds  [][2]int // lock, task
	line   [][3]int // 1 for a lock or 2 for a latch, its number, task
	opened []int
}

func (m *model) waits(task int) bool {
	return slices.ContainsFunc(m.line, func(w [3]int) bool { return w[2] == task })
}

func (m *model) ready() []int {
	return slices.DeleteFunc(slices.Clone(m.tasks), m.waits)
}

func (m *model) holder(lock int) int {
	for _, h := range m.holds {
		if h[0] == lock {
			return h[1]
		}
	}
	return 0
}

func (m *model) picks(task int) int {
	n := 0
	for _, p := range m.picked {
		if p == task && slices.Contains(m.tasks, task) {
			n++
		}
	}
	return n
}

// fault is what is wrong with a call ahead of its own errors; ready: it is for a task that is ready
func (m *model) fault(task, which int, ready bool) api.Errno {
	switch {
	case which < 0:
		return api.ErrArg
	case !slices.Contains(m.tasks, task):
		return api.ErrTask
	case ready && m.waits(task):
		return api.ErrState
	}
	return api.OK
}

func (m *model) start() (int, api.Errno) {
	if len(m.tasks) == 64 {
		return 0, api.ErrFull
	}
	m.last++
	m.tasks = append(m.tasks, m.last)
	return m.last, api.OK
}

func (m *model) end(task int) api.Errno {
	if e := m.fault(task, 0, true); e != api.OK {
		return e
	}
	for lock := range 6 {
		m.unlock(task, lock)
	}
	m.tasks = slices.DeleteFunc(m.tasks, func(t int) bool { return t == task })
	return api.OK
}

func (m *model) pick(n int) (int, bool) {
	ready := m.ready()
	if len(ready) == 0 {
		return 0, false
	}
	place := uint64(n)
	if n < 0 {
		place = math.MaxUint64 - place
	}
	task := ready[place%uint64(len(ready))]
	m.picked = append(m.picked, task)
	return task, true
}

func (m *model) lock(task, lock int) (bool, api.Errno) {
	if e := m.fault(task, lock, true); e != api.OK {
		return false, e
	}
	switch m.holder(lock) {
	case task:
	case 0:
		m.holds = append(m.holds, [2]int{lock, task})
	default:
		m.line = append(m.line, [3]int{1, lock, task})
		return false, api.OK
	}
	return true, api.OK
}

func (m *model) unlock(task, lock int) api.Errno {
	if e := m.fault(task, lock, false); e != api.OK {
		return e
	}
	at := slices.Index(m.holds, [2]int{lock, task})
	if at < 0 {
		return api.ErrOwner
	}
	m.holds = slices.Delete(m.holds, at, at+1)
	for i, w := range m.line {
		if w[0] == 1 && w[1] == lock {
			m.holds = append(m.holds, [2]int{lock, w[2]})
			m.line = slices.Delete(m.line, i, i+1)
			break
		}
	}
	return api.OK
}

func (m *model) await(task, latch int) (bool, api.Errno) {
	if e := m.fault(task, latch, true); e != api.OK {
		return false, e
	}
	if slices.Contains(m.opened, latch) {
		return true, api.OK
	}
	m.line = append(m.line, [3]int{2, latch, task})
	return false, api.OK
}

func (m *model) open(latch int) int {
	if latch < 0 {
		return 0
	}
	m.opened = append(m.opened, latch)
	before := len(m.line)
	m.line = slices.DeleteFunc(m.line, func(w [3]int) bool { return w[0] == 2 && w[1] == latch })
	return before - len(m.line)
}

func (m *model) all() string {
	ready := m.ready()
	text := fmt.Sprint(ready, len(m.tasks) > 0 && len(ready) == 0)
	for n := -1; n < 12; n++ {
		text += fmt.Sprint(" ", m.picks(n), ",", m.holder(n))
	}
	return text
}

// TestModel does the same calls to a scheduler and to the model: each number of a short rule says which.
func TestModel(t *testing.T) {
	seed := uint64(1)
	draw := func(n int) int {
		seed = seed*6364136223846793005 + 1442695040888963407
		return int(seed>>33) % n
	}
	stuck := 0
	for round := range 400 {
		s, m := New(), &model{}
		kinds := 24
		if round%4 == 0 {
			kinds = 40 // many starts: up to MaxTasks
		}
		for i := range 200 {
			got, want := "", ""
			task, which := m.last-draw(9), draw(6)
			if draw(20) == 0 {
				which = draw(5) - 5
			}
			what := draw(kinds)
			switch what {
			case 0, 1:
				got, want = told(0, s.End(task)), told(0, m.end(task))
			case 2, 3, 4, 5, 6, 7, 8:
				got, want = told(s.Lock(task, which)), told(m.lock(task, which))
			case 9, 10, 11, 12, 13:
				got, want = told(0, s.Unlock(task, which)), told(0, m.unlock(task, which))
			case 14, 15:
				latch := which + draw(40)
				got, want = told(s.Await(task, latch)), told(m.await(task, latch))
			case 16:
				latch := which + draw(40)
				got, want = told(s.Open(latch), true), told(m.open(latch), true)
			case 17, 18, 19, 20:
				n := draw(200) - 100
				if draw(9) == 0 {
					n = []int{math.MinInt, math.MaxInt}[draw(2)]
				}
				got, want = told(s.Pick(n)), told(m.pick(n))
			default:
				got, want = told(s.Start()), told(m.start())
			}
			if s.Stuck() {
				stuck++
			}
			if got != want || all(s) != m.all() || s.Picks(task) != m.picks(task) {
				t.Fatalf("round %d, call %d (%d) of %d, %d: %s %s, want %s %s", round, i, what, task, which, got, all(s), want, m.all())
			}
		}
	}
	if stuck == 0 {
		t.Error("nobody was ever stuck")
	}
}
