package disk

import (
	"fmt"
	"maps"
	"slices"
	"strings"
	"testing"

	"caisson/api"
)

// model says the same by other means: it keeps the names behind each change since they were firm, each as a whole.
type model struct {
	room, arm, steps int
	on               bool
	names            []map[string]*text
}

type text struct {
	data string
	firm int
}

func newModel(room int) *model {
	return &model{room: room, arm: -1, on: true, names: []map[string]*text{{}}}
}

func (m *model) now() map[string]*text { return m.names[len(m.names)-1] }

func (m *model) used() int {
	n := 0
	for _, f := range m.now() {
		n += len(f.data)
	}
	return n
}

// fault is what is wrong with a step ahead of its own errors; needs: the file must be there
func (m *model) fault(needs bool, names ...string) api.Errno {
	if !m.on {
		return api.ErrPower
	}
	for _, name := range names {
		if name == "" || len(name) > 32 || strings.Trim(name, "abcdefghijklmnopqrstuvwxyz0123456789.-_") != "" {
			return api.ErrFile
		}
	}
	if needs && m.now()[names[0]] == nil {
		return api.ErrNone
	}
	return api.OK
}

// step does a change of names and one of bytes; late: not if the power goes out
func (m *model) step(late bool, do func()) api.Errno {
	m.steps++
	out := m.arm == 0
	if m.arm >= 0 {
		m.arm--
	}
	if !out || !late {
		do()
	}
	if out {
		m.on = false
		return api.ErrPower
	}
	return api.OK
}

func (m *model) change(do func(names map[string]*text)) {
	names := maps.Clone(m.now())
	do(names)
	m.names = append(m.names, names)
}

func (m *model) write(name, data string) api.Errno {
	if e := m.fault(false, name); e != api.OK {
		return e
	}
	there := m.now()[name] != nil
	if m.used()+len(data) > m.room || !there && len(m.now()) == 64 {
		return api.ErrFull
	}
	return m.step(false, func() {
		if !there {
			m.change(func(names map[string]*text) { names[name] = &text{} })
		}
		m.now()[name].data += data
	})
}

func (m *model) cut(name string, size int) api.Errno {
	if e := m.fault(true, name); e != api.OK {
		return e
	}
	f := m.now()[name]
	if size < 0 || size > len(f.data) {
		return api.ErrArg
	}
	return m.step(true, func() { f.data, f.firm = f.data[:size], min(f.firm, size) })
}

func (m *model) sync(name string) api.Errno {
	if e := m.fault(true, name); e != api.OK {
		return e
	}
	f := m.now()[name]
	return m.step(true, func() { f.firm = len(f.data) })
}

func (m *model) settle() api.Errno {
	if e := m.fault(false); e != api.OK {
		return e
	}
	return m.step(true, func() { m.names = m.names[len(m.names)-1:] })
}

func (m *model) rename(from, to string) api.Errno {
	if e := m.fault(true, from, to); e != api.OK {
		return e
	}
	return m.step(false, func() {
		if from == to {
			return
		}
		m.change(func(names map[string]*text) {
			names[to] = names[from]
			delete(names, from)
		})
	})
}

func (m *model) remove(name string) api.Errno {
	if e := m.fault(true, name); e != api.OK {
		return e
	}
	return m.step(false, func() { m.change(func(names map[string]*text) { delete(names, name) }) })
}

func (m *model) crash(picks []int) {
	next := func(most int) int {
		p := 0
		if len(picks) > 0 {
			p, picks = picks[0], picks[1:]
		}
		if p < 0 {
			p = -(p + 1)
		}
		return p % (most + 1)
	}
	k := next(len(m.names) - 1)
	m.names = m.names[k : k+1]
	for _, name := range slices.Sorted(maps.Keys(m.now())) {
		f := m.now()[name]
		if t := len(f.data) - f.firm; t > 0 {
			f.data = f.data[:f.firm+next(t)]
		}
		f.firm = len(f.data)
	}
	m.on, m.arm = true, -1
}

func (m *model) all() string {
	s := fmt.Sprint(m.on, m.used(), m.room, m.steps)
	if m.on {
		for _, name := range slices.Sorted(maps.Keys(m.now())) {
			s += " " + name + "=" + m.now()[name].data
		}
	}
	return s
}

// TestModel does the same calls to a disk and to the model: each number of a short rule says which.
func TestModel(t *testing.T) {
	names := []string{"a", "b", "c", "d", "e0", "A", ""}
	seed := uint64(1)
	draw := func(n int) int {
		seed = seed*6364136223846793005 + 1442695040888963407
		return int(seed>>33) % n
	}
	name := func() string { return names[draw(len(names)*3)%len(names)] }
	for round := range 400 {
		d, m := New(40), newModel(40)
		for i := range 120 {
			var got, want api.Errno
			what := draw(20)
			switch n, to := name(), name(); what {
			case 0, 1, 2, 3, 4:
				data := strings.Repeat(string(rune('a'+i%26)), draw(6))
				got, want = d.Write(n, data), m.write(n, data)
			case 5, 6:
				size := draw(9) - 1
				got, want = d.Cut(n, size), m.cut(n, size)
			case 7, 8, 9:
				got, want = d.Sync(n), m.sync(n)
			case 10, 11:
				got, want = d.Settle(), m.settle()
			case 12, 13, 14:
				got, want = d.Rename(n, to), m.rename(n, to)
			case 15:
				got, want = d.Remove(n), m.remove(n)
			case 16:
				arm := draw(12) - 3
				d.Arm(arm)
				m.arm = max(arm, -1)
			case 17:
				old := d
				d = d.Copy()
				old.Rename("a", "b")
				old.Remove("c")
				old.Cut("d", 0)
				old.Write("e0", "!")
				old.Crash([]int{i})
			default:
				if what == 18 && m.on {
					continue
				}
				picks := make([]int, draw(7))
				for k := range picks {
					picks[k] = draw(60) - 30
				}
				d.Crash(picks)
				m.crash(picks)
			}
			if got != want || all(d) != m.all() {
				t.Fatalf("round %d, call %d (%d): %d %s, want %d %s", round, i, what, got, all(d), want, m.all())
			}
		}
	}
}
