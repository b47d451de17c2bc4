package sched

import (
	"fmt"
	"math"
	"slices"
	"testing"

	"caisson/api"
)

func is(t *testing.T, what string, got, want any) {
	t.Helper()
	if g, w := fmt.Sprint(got), fmt.Sprint(want); g != w {
		t.Errorf("%s: %.200s, want %.200s", what, g, w)
	}
}

// what a call told: a number or a truth, and its error's number or another truth
func told[V any](v V, e any) string {
	if n, ok := e.(api.Errno); ok {
		return fmt.Sprintf("%v/%d", v, int(n))
	}
	return fmt.Sprintf("%v/%v", v, e)
}

// all that can be seen of a scheduler without a change of it, of the first tasks and locks
func all(s *Sched) string {
	text := fmt.Sprint(s.Ready(), s.Stuck())
	for n := -1; n < 12; n++ {
		text += fmt.Sprint(" ", s.Picks(n), ",", s.Holder(n))
	}
	return text
}

// a scheduler with so many tasks
func started(t *testing.T, many int) *Sched {
	t.Helper()
	s := New()
	for i := range many {
		is(t, "Start", told(s.Start()), fmt.Sprint(i+1, "/0"))
	}
	return s
}

// each call of one task about a lock or a latch
var calls = []struct {
	what  string
	awake bool // it is not for a task that waits
	call  func(s *Sched, task, which int) string
}{
	{"Lock", true, func(s *Sched, task, which int) string { return told(s.Lock(task, which)) }},
	{"Await", true, func(s *Sched, task, which int) string { return told(s.Await(task, which)) }},
	{"Unlock", false, func(s *Sched, task, which int) string { return told(false, s.Unlock(task, which)) }},
}

// numbers of which none is a task of three
var noTasks = []int{math.MinInt, -2, -1, 0, 4, 5, 64, math.MaxInt}

// numbers of which none is a lock or a latch
var noLocks = []int{math.MinInt, -2, -1}

func TestExamples(t *testing.T) {
	s := New()
	is(t, "Start", told(s.Start()), "1/0")
	is(t, "Start", told(s.Start()), "2/0")
	is(t, "Start", told(s.Start()), "3/0")
	is(t, "Ready", s.Ready(), "[1 2 3]")
	is(t, "Pick", told(s.Pick(4)), "2/true")
	is(t, "Pick", told(s.Pick(-1)), "1/true")
	is(t, "Lock", told(s.Lock(1, 7)), "true/0")
	is(t, "Lock", told(s.Lock(2, 7)), "false/0")
	is(t, "Lock", told(s.Lock(3, 7)), "false/0")
	is(t, "Ready", s.Ready(), "[1]")
	is(t, "End", s.End(2), api.ErrState)
	is(t, "Unlock", s.Unlock(2, 7), api.ErrOwner)
	is(t, "Unlock", s.Unlock(1, 7), api.OK)
	is(t, "Holder", s.Holder(7), 2)
	is(t, "Ready", s.Ready(), "[1 2]")
	is(t, "Await", told(s.Await(1, 5)), "false/0")
	is(t, "Lock", told(s.Lock(2, 7)), "true/0")
	is(t, "End", s.End(2), api.OK)
	is(t, "Holder", s.Holder(7), 3)
	is(t, "Open", s.Open(5), 1)
	is(t, "Open", s.Open(5), 0)
	is(t, "Ready", s.Ready(), "[1 3]")
}

func TestP31New(t *testing.T) {
	s := New()
	if s == nil {
		t.Fatal("New is nil")
	}
	is(t, "no tasks", len(s.Ready()), 0)
	is(t, "nothing to pick", told(s.Pick(0)), "0/false")
	is(t, "nothing held", s.Holder(0), 0)
	s.Start()
	is(t, "no latch open", told(s.Await(1, 0)), "false/0")
	is(t, "each is its own", len(New().Ready()), 0)
}

func TestP31Start(t *testing.T) {
	s := started(t, api.MaxTasks)
	is(t, "all are ready", len(s.Ready()), 64)
	is(t, "full", told(s.Start()), "0/12")
	for i := 1; i <= 64; i++ {
		is(t, "Await", told(s.Await(i, 3)), "false/0")
	}
	is(t, "those that wait are there too", told(s.Start()), "0/12")
	is(t, "Open", s.Open(3), 64)
	is(t, "full still", told(s.Start()), "0/12")
	is(t, "End", s.End(64), api.OK)
	is(t, "no number again, none is used up by an error", told(s.Start()), "65/0")
	is(t, "full again", told(s.Start()), "0/12")
	is(t, "the new one is ready, behind the others", s.Ready()[63], 65)
}

func TestP31NumbersAreNeverAgain(t *testing.T) {
	s := New()
	for i := 1; i <= 200; i++ {
		is(t, "Start", told(s.Start()), fmt.Sprint(i, "/0"))
		is(t, "ready", s.Ready(), fmt.Sprint([]int{i}))
		is(t, "not picked", s.Picks(i), 0)
		is(t, "End", s.End(i), api.OK)
		is(t, "End again", s.End(i), api.ErrTask)
	}
}

func TestP31End(t *testing.T) {
	s := started(t, 3)
	for _, task := range noTasks {
		is(t, "no such task", s.End(task), api.ErrTask)
	}
	s.Lock(1, 4)
	s.Lock(2, 4)
	s.Await(3, 4)
	before := all(s)
	is(t, "waits for a lock", s.End(2), api.ErrState)
	is(t, "waits for a latch", s.End(3), api.ErrState)
	is(t, "as it was", all(s), before)
	is(t, "End", s.End(1), api.OK)
	is(t, "the lock is passed on", fmt.Sprint(s.Holder(4), s.Ready()), "2 [2]")
	s.Open(4)
	is(t, "ready again", s.End(3), api.OK)
	is(t, "the last one", s.End(2), api.OK)
	is(t, "nobody", fmt.Sprint(s.Holder(4), s.Ready(), s.Stuck()), "0 [] false")
}

func TestP31EndUnlocksAll(t *testing.T) {
	s := started(t, 5)
	for _, lock := range []int{9, 2, 5, 0, math.MaxInt} {
		s.Lock(1, lock)
	}
	s.Lock(2, 6)
	s.Lock(3, 9)
	s.Lock(4, 2)
	s.Lock(5, 9)
	is(t, "End", s.End(1), api.OK)
	is(t, "each goes to who waits for it longest", fmt.Sprint(s.Holder(9), s.Holder(2), s.Holder(5), s.Holder(0), s.Holder(math.MaxInt)), "3 4 0 0 0")
	is(t, "another's lock stays", s.Holder(6), 2)
	is(t, "those that hold now are ready", s.Ready(), "[2 3 4]")
	is(t, "those that wait still do", s.End(5), api.ErrState)
	is(t, "free to take", told(s.Lock(2, 5)), "true/0")
	s.End(3)
	is(t, "the next one", s.Holder(9), 5)
}

func TestP31Pick(t *testing.T) {
	s := started(t, 6)
	s.End(3)
	s.Await(5, 1)
	ready := []int{1, 2, 4, 6}
	is(t, "Ready", s.Ready(), ready)
	picks := map[int]int{}
	for _, n := range []int{0, 1, 2, 3, 4, 5, 6, 7, 103, math.MaxInt} {
		want := ready[n%4]
		is(t, fmt.Sprint("Pick ", n), told(s.Pick(n)), fmt.Sprint(want, "/true"))
		is(t, fmt.Sprint("Pick ", -(n+1)), told(s.Pick(-(n + 1))), fmt.Sprint(want, "/true"))
		picks[want] += 2
	}
	for task := range 8 {
		is(t, fmt.Sprint("Picks of ", task), s.Picks(task), picks[task])
	}
	is(t, "not picked, as it waited", s.Picks(5), 0)
	is(t, "a pick changes nothing else", s.Ready(), ready)
	s.Open(1)
	is(t, "now it can be", told(s.Pick(3)), "5/true")
	is(t, "once", s.Picks(5), 1)
}

func TestP31Picks(t *testing.T) {
	s := started(t, 3)
	for i := range 1000 {
		is(t, "so far", s.Picks(2), i)
		s.Pick(1)
	}
	for _, task := range noTasks {
		is(t, "no such task", s.Picks(task), 0)
	}
	s.Await(2, 0)
	is(t, "of one that waits", s.Picks(2), 1000)
	is(t, "others", fmt.Sprint(s.Picks(1), s.Picks(3)), "0 0")
	s.Open(0)
	s.End(2)
	is(t, "of one that is gone", s.Picks(2), 0)
}

func TestP31PickNone(t *testing.T) {
	s := started(t, 1)
	s.Await(1, 0)
	for _, n := range []int{math.MinInt, -1, 0, 1, math.MaxInt} {
		is(t, "all wait", told(s.Pick(n)), "0/false")
		is(t, "there are none", told(New().Pick(n)), "0/false")
	}
	is(t, "so nobody was picked", s.Picks(1), 0)
}

// who ended or waits is not ready; the list is rising however they came to be ready
func TestP31Ready(t *testing.T) {
	s := started(t, 40)
	want := []int{}
	for i := 1; i <= 40; i++ {
		switch {
		case i%5 == 0:
			s.End(i)
		case i%3 == 0:
			s.Await(i, 3)
		case i%7 == 0:
			s.Await(i, 7)
			want = append(want, i)
		default:
			want = append(want, i)
		}
	}
	s.Open(7)
	is(t, "Ready", s.Ready(), want)
}

func TestP32Lock(t *testing.T) {
	s := started(t, 3)
	for _, lock := range []int{0, 1, math.MaxInt} {
		is(t, "nobody holds it", s.Holder(lock), 0)
		is(t, "Lock", told(s.Lock(2, lock)), "true/0")
		is(t, "Holder", s.Holder(lock), 2)
		is(t, "again", told(s.Lock(2, lock)), "true/0")
	}
	is(t, "it is ready still", s.Ready(), "[1 2 3]")
	is(t, "another one", told(s.Lock(3, 0)), "false/0")
	is(t, "waits", s.Ready(), "[1 2]")
	is(t, "the holder is the same", s.Holder(0), 2)
	is(t, "its own once more", told(s.Lock(2, 0)), "true/0")
	is(t, "one Unlock is enough for all", s.Unlock(2, 0), api.OK)
	is(t, "passed on", s.Holder(0), 3)
	is(t, "not its own any more", s.Unlock(2, 0), api.ErrOwner)
}

func TestP32InTheirOrder(t *testing.T) {
	s := started(t, 6)
	s.Lock(4, 1)
	for _, task := range []int{6, 2, 5, 1, 3} {
		is(t, "waits", told(s.Lock(task, 1)), "false/0")
	}
	is(t, "one is ready", s.Ready(), "[4]")
	holder := 4
	for _, next := range []int{6, 2, 5, 1, 3} {
		is(t, "Unlock", s.Unlock(holder, 1), api.OK)
		is(t, "next", s.Holder(1), next)
		is(t, "it is ready", slices.Contains(s.Ready(), next), true)
		if next == 2 {
			is(t, "behind the others again", told(s.Lock(4, 1)), "false/0")
		}
		holder = next
	}
	is(t, "Unlock", s.Unlock(3, 1), api.OK)
	is(t, "the one that came again", s.Holder(1), 4)
	is(t, "Unlock", s.Unlock(4, 1), api.OK)
	is(t, "nobody", s.Holder(1), 0)
	is(t, "and nobody's own", s.Unlock(4, 1), api.ErrOwner)
	is(t, "all are ready", s.Ready(), "[1 2 3 4 5 6]")
}

func TestP32Unlock(t *testing.T) {
	s := started(t, 3)
	s.Lock(1, 0)
	s.Lock(2, 0)
	s.Lock(3, 5)
	before := all(s)
	is(t, "another's", s.Unlock(3, 0), api.ErrOwner)
	is(t, "one that it waits for", s.Unlock(2, 0), api.ErrOwner)
	is(t, "nobody's", s.Unlock(1, 1), api.ErrOwner)
	is(t, "as it was", all(s), before)
	s.Await(1, 0)
	is(t, "a task that waits may", s.Unlock(1, 0), api.OK)
	is(t, "passed on, the task waits still", fmt.Sprint(s.Holder(0), s.Ready()), "2 [2 3]")
}

func TestP32Holder(t *testing.T) {
	s := started(t, 2)
	s.Lock(1, 0)
	s.Await(2, 3)
	s.Open(4)
	for _, lock := range []int{math.MinInt, -1, 1, 3, 4, math.MaxInt} {
		is(t, "nobody", s.Holder(lock), 0)
	}
	is(t, "Holder", s.Holder(0), 1)
}

// of several errors the first one is told, and nothing is changed
func TestP32Errors(t *testing.T) {
	s := started(t, 3)
	s.Lock(1, 0)
	s.Lock(2, 0)
	s.Await(3, 0)
	before := all(s)
	for _, c := range calls {
		for _, which := range noLocks {
			for _, task := range append(noTasks, 1, 2, 3) {
				is(t, c.what+": no lock or latch", c.call(s, task, which), "false/1")
			}
		}
		for _, task := range noTasks {
			is(t, c.what+": no such task", c.call(s, task, 0), "false/18")
		}
		for _, which := range []int{0, 1, math.MaxInt} {
			for task := 2; task <= 3; task++ {
				if c.awake {
					is(t, c.what+": it waits", c.call(s, task, which), "false/51")
				}
			}
		}
	}
	is(t, "as it was", all(s), before)
	s.Open(0)
	s.Unlock(1, 0)
	s.End(3)
	is(t, "one that is gone", told(s.Lock(3, 0)), "false/18")
	is(t, "one that is gone", told(s.Await(3, 0)), "false/18")
	is(t, "one that is gone", s.Unlock(3, 0), api.ErrTask)
}

// a task that waits is told ErrState also of a lock that it holds, and of a latch that is open
func TestP32WaitsFirst(t *testing.T) {
	s := started(t, 2)
	s.Lock(1, 0)
	s.Lock(2, 1)
	s.Lock(2, 0)
	s.Open(9)
	is(t, "its own lock", told(s.Lock(2, 1)), "false/51")
	is(t, "a free lock", told(s.Lock(2, 5)), "false/51")
	is(t, "an open latch", told(s.Await(2, 9)), "false/51")
	is(t, "none was taken", fmt.Sprint(s.Holder(1), s.Holder(5)), "2 0")
	s.Unlock(1, 0)
	is(t, "it waited once", told(s.Lock(1, 0)), "false/0")
	is(t, "and comes once", fmt.Sprint(int(s.Unlock(2, 0)), s.Holder(0), int(s.Unlock(1, 0)), s.Holder(0)), "0 1 0 0")
}

func TestP33Latches(t *testing.T) {
	s := started(t, 5)
	is(t, "Await", told(s.Await(4, 2)), "false/0")
	is(t, "Await", told(s.Await(1, 2)), "false/0")
	is(t, "another latch", told(s.Await(2, 3)), "false/0")
	is(t, "Ready", s.Ready(), "[3 5]")
	is(t, "nobody waits for that", s.Open(7), 0)
	is(t, "no one is ready by it", s.Ready(), "[3 5]")
	is(t, "Open", s.Open(2), 2)
	is(t, "all that waited for it, no other", s.Ready(), "[1 3 4 5]")
	is(t, "open", told(s.Await(1, 2)), "true/0")
	is(t, "ready still", s.Ready(), "[1 3 4 5]")
	is(t, "opened ahead", told(s.Await(3, 7)), "true/0")
	is(t, "Open again", s.Open(2), 0)
	is(t, "for ever", told(s.Await(5, 2)), "true/0")
	is(t, "the other one", s.Open(3), 1)
	is(t, "all", s.Ready(), "[1 2 3 4 5]")
}

func TestP33Open(t *testing.T) {
	s := started(t, 2)
	s.Lock(1, 4)
	s.Lock(2, 4)
	for _, latch := range noLocks {
		is(t, "no latch", s.Open(latch), 0)
	}
	is(t, "a lock is no latch", s.Open(4), 0)
	is(t, "it waits for the lock", s.Ready(), "[1]")
	is(t, "a latch is no lock", told(s.Lock(1, 4)), "true/0")
	is(t, "Await", told(s.Await(1, 0)), "false/0")
	is(t, "the least", s.Open(0), 1)
	is(t, "Await", told(s.Await(1, math.MaxInt)), "false/0")
	is(t, "the greatest", s.Open(math.MaxInt), 1)
	is(t, "the latch of the lock's number", told(s.Await(1, 4)), "true/0")
	s.End(1)
	s.Start()
	is(t, "open for those that come later", told(s.Await(3, 0)), "true/0")
	empty := New()
	is(t, "without tasks", empty.Open(1), 0)
	empty.Start()
	is(t, "opened then", told(empty.Await(1, 1)), "true/0")
}

func TestP34Stuck(t *testing.T) {
	s := New()
	is(t, "no tasks", s.Stuck(), false)
	s.Start()
	is(t, "one that is ready", s.Stuck(), false)
	s.Await(1, 0)
	is(t, "one that waits", s.Stuck(), true)
	s.Start()
	is(t, "another one", s.Stuck(), false)
	s.Lock(2, 0)
	s.Start()
	s.Lock(3, 0)
	is(t, "the holder goes on", s.Stuck(), false)
	s.Await(2, 0)
	is(t, "all wait", s.Stuck(), true)
	s.Unlock(2, 0)
	is(t, "one has the lock", s.Stuck(), false)
	s.End(3)
	is(t, "stuck again", s.Stuck(), true)
	s.Open(0)
	is(t, "none is", s.Stuck(), false)
	s.End(1)
	s.End(2)
	is(t, "none is there", s.Stuck(), false)
}

func TestP34DeadLock(t *testing.T) {
	s := started(t, 2)
	s.Lock(1, 1)
	s.Lock(2, 2)
	s.Lock(1, 2)
	is(t, "one waits", s.Stuck(), false)
	s.Lock(2, 1)
	is(t, "each for the other", fmt.Sprint(s.Stuck(), len(s.Ready()), s.Holder(1), s.Holder(2)), "true 0 1 2")
	is(t, "nobody can end", fmt.Sprint(int(s.End(1)), int(s.End(2))), "51 51")
	is(t, "till one gives up", fmt.Sprint(int(s.Unlock(1, 1)), s.Stuck(), s.Ready()), "0 false [2]")
}

// each place picked by turns, nobody who is ready is left out, though others come and go
func TestP35Picked(t *testing.T) {
	for many := 1; many <= 64; many++ {
		s := started(t, many)
		for n := range 3 * many {
			s.Pick(n)
		}
		for task := 1; task <= many; task++ {
			is(t, fmt.Sprint("of ", many), s.Picks(task), 3)
		}
	}
}

// tasks that take locks in rising order and go on are never stuck: each of them ends, whatever the picks
func TestP35RisingOrder(t *testing.T) {
	for round := range 50 {
		s := started(t, 12)
		next := map[int]int{} // the lock that a task takes next
		draw := uint64(round)
		for i := 0; len(s.Ready()) > 0; i++ {
			if i > 5000 {
				t.Fatal("it doesn't end")
			}
			draw = draw*6364136223846793005 + 1442695040888963407
			task, _ := s.Pick(int(draw >> 33))
			if next[task] > 6 {
				is(t, "End", s.End(task), api.OK)
				continue
			}
			lock := next[task]
			next[task] += 1 + int(draw>>40)%3
			got, e := s.Lock(task, lock)
			is(t, "Lock", e, api.OK)
			is(t, "it has the lock just if it goes on", got, s.Holder(lock) == task)
			is(t, "somebody goes on", s.Stuck(), false)
		}
		is(t, "all ended", fmt.Sprint(len(next), " ", s.Stuck(), " ", told(s.Pick(0))), "12 false 0/false")
		for lock := range 10 {
			is(t, "no lock is held", s.Holder(lock), 0)
		}
	}
}

// what is told is its owner's
func TestOwned(t *testing.T) {
	s := started(t, 4)
	ready := s.Ready()
	ready[0], ready[1] = 9, 9
	_ = append(ready[:2], 7, 7)
	is(t, "as it was", s.Ready(), "[1 2 3 4]")
	kept := s.Ready()
	s.End(1)
	s.Await(3, 0)
	is(t, "told earlier", kept, "[1 2 3 4]")
}

// two schedulers with the same calls tell the same, and know nothing of each other
func TestApart(t *testing.T) {
	a, b := started(t, 2), started(t, 2)
	before := all(b)
	a.Lock(1, 1)
	a.Lock(2, 1)
	a.Open(3)
	a.Pick(0)
	is(t, "as it was", all(b), before)
	is(t, "its own lock", told(b.Lock(2, 1)), "true/0")
	is(t, "its own latch", told(b.Await(1, 3)), "false/0")
}

func TestNil(t *testing.T) {
	var s *Sched
	is(t, "Start", told(s.Start()), "0/1")
	for _, task := range []int{math.MinInt, -1, 0, 1, math.MaxInt} {
		for _, which := range []int{math.MinInt, -1, 0, 1, math.MaxInt} {
			for _, c := range calls {
				is(t, c.what, c.call(s, task, which), "false/1")
			}
			is(t, "Open", s.Open(which), 0)
			is(t, "Holder", s.Holder(which), 0)
		}
		is(t, "End", s.End(task), api.ErrArg)
		is(t, "Pick", told(s.Pick(task)), "0/false")
		is(t, "Picks", s.Picks(task), 0)
	}
	is(t, "Ready, Stuck", fmt.Sprint(len(s.Ready()), s.Stuck()), "0 false")
}

// each first call of a zero one tells what it tells of a new one
func TestZero(t *testing.T) {
	is(t, "as a new one", all(new(Sched)), all(New()))
	for _, c := range calls {
		for _, which := range []int{-1, 0} {
			is(t, c.what, c.call(new(Sched), 1, which), c.call(New(), 1, which))
		}
		s := new(Sched)
		is(t, "Start", told(s.Start()), "1/0")
		n := started(t, 1)
		is(t, c.what, c.call(s, 1, 0)+all(s), c.call(n, 1, 0)+all(n))
	}
	is(t, "End", new(Sched).End(1), api.ErrTask)
	is(t, "Pick", told(new(Sched).Pick(0)), "0/false")
	s := new(Sched)
	is(t, "Open", s.Open(2), 0)
	s.Start()
	is(t, "it is open", told(s.Await(1, 2)), "true/0")
}

func TestMuch(t *testing.T) {
	s := started(t, 3)
	const many = 20000
	for i := range many {
		s.Lock(1, i)
		s.Open(i)
	}
	s.Lock(2, many/2)
	is(t, "all are its own", s.Holder(many-1), 1)
	is(t, "End", s.End(1), api.OK)
	is(t, "all are free but one", fmt.Sprint(s.Holder(0), s.Holder(many/2), s.Holder(many-1)), "0 2 0")
	is(t, "open", told(s.Await(3, many-1)), "true/0")
	for range many {
		s.Lock(3, many/2)
		s.Unlock(2, many/2)
		s.Lock(2, many/2)
		s.Unlock(3, many/2)
	}
	is(t, "passed to and fro", fmt.Sprint(s.Holder(many/2), s.Ready()), "2 [2 3]")
}
