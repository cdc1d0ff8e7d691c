package disk_test

import (
	"bytes"
	"maps"
	"math/rand"
	"slices"
	"strings"
	"testing"

	"darner/api"
	"darner/disk"
	"darner/path"
)

// A model is a disk as the chapter defines it: it keeps the durable state and
// the pending changes as a list, and finds the visible state by repeating all of
// them. What was written is known by its number, under which it rots.
type model struct {
	room, counter int
	written       []content
	durable       map[string]int // The number of what was written, by path.
	pending       []step
}

type content struct {
	bytes []byte
	stamp disk.Stamp
}

// A step is a change: number is written to to where from is empty; from is
// renamed to to; from is removed where to is empty.
type step struct {
	from, to string
	number   int
}

func newModel(room int) *model {
	return &model{room: room, durable: map[string]int{}}
}

func clashing(a, b string) bool {
	inside := func(a, b string) bool { return len(a) > len(b)+1 && strings.HasPrefix(a, b+"/") }
	return inside(a, b) || inside(b, a)
}

// after returns a state after a step.
func (s step) after(state map[string]int) map[string]int {
	next, number := maps.Clone(state), s.number
	if s.from != "" {
		found, there := state[s.from]
		if !there {
			return next
		}
		delete(next, s.from)
		number = found
	}
	if s.to == "" {
		return next
	}
	for other := range state {
		if clashing(other, s.to) {
			delete(next, other)
		}
	}
	next[s.to] = number
	return next
}

func (m *model) visible() map[string]int {
	state := m.durable
	for _, s := range m.pending {
		state = s.after(state)
	}
	return state
}

// clashes reports whether p clashes with the path of a file other than except.
func (m *model) clashes(p, except string) bool {
	for other := range m.visible() {
		if other != except && clashing(other, p) {
			return true
		}
	}
	return false
}

func (m *model) write(p string, b []byte, time int) api.Errno {
	after := step{to: p, number: len(m.written)}.after(m.visible())
	used := 0
	for _, number := range after {
		if number == len(m.written) {
			used += len(b)
		} else {
			used += len(m.written[number].bytes)
		}
	}
	switch {
	case !path.Good(p):
		return api.ErrPath
	case len(b) > 1<<18:
		return api.ErrRange
	case m.clashes(p, ""):
		return api.ErrThere
	case len(after) > 64:
		return api.ErrMany
	case used > m.room:
		return api.ErrFull
	}
	m.counter++
	m.pending = append(m.pending, step{to: p, number: len(m.written)})
	m.written = append(m.written, content{bytes.Clone(b), disk.Stamp{Size: len(b), Time: time, Change: m.counter}})
	return api.OK
}

func (m *model) rename(from, to string) api.Errno {
	_, there := m.visible()[from]
	switch {
	case !there:
		return api.ErrNone
	case !path.Good(to):
		return api.ErrPath
	case m.clashes(to, from):
		return api.ErrThere
	}
	m.pending = append(m.pending, step{from: from, to: to})
	return api.OK
}

func (m *model) remove(p string) api.Errno {
	if _, there := m.visible()[p]; !there {
		return api.ErrNone
	}
	m.pending = append(m.pending, step{from: p})
	return api.OK
}

func (m *model) rot(p string, at int, mask byte) api.Errno {
	number, there := m.visible()[p]
	if !there {
		return api.ErrNone
	}
	b := m.written[number].bytes
	if at < 0 || at >= len(b) {
		return api.ErrRange
	}
	b[at] ^= mask
	return api.OK
}

func (m *model) sync() {
	m.durable = m.visible()
	m.pending = nil
}

func (m *model) crash(keep []bool) {
	for i, s := range m.pending {
		if i < len(keep) && keep[i] {
			m.durable = s.after(m.durable)
		}
	}
	m.pending = nil
}

// check compares all that a disk tells with the model.
func (m *model) check(t *testing.T, d *disk.Disk, what string) {
	t.Helper()
	visible := m.visible()
	if got, want := d.Paths(), slices.Sorted(maps.Keys(visible)); !slices.Equal(got, want) {
		t.Fatalf("P8.1: %s: Paths: %q instead of %q", what, got, want)
	}
	used := 0
	for p, number := range visible {
		want := m.written[number]
		used += len(want.bytes)
		if got, e := d.Read(p); e != api.OK || !bytes.Equal(got, want.bytes) {
			t.Fatalf("P8.1: %s: Read(%q): %q, error %d instead of %q", what, p, got, e, want.bytes)
		}
		if got, e := d.Stat(p); e != api.OK || got != want.stamp {
			t.Fatalf("P8.1: %s: Stat(%q): %v, error %d instead of %v", what, p, got, e, want.stamp)
		}
	}
	if d.Used() != used || d.Room() != m.room || d.Waiting() != len(m.pending) {
		t.Fatalf("P8.1: %s: Used %d instead of %d, Room %d instead of %d, Waiting %d instead of %d",
			what, d.Used(), used, d.Room(), m.room, d.Waiting(), len(m.pending))
	}
}

// places are paths that clash with each other, others, and what is no path.
var places = []string{"a", "a/b", "a/b/c", "a/d", "b", "b/b", "ab", "a.", "c", ".tmp~a", ".par~a", "x", "y", "", "/", "a//b", "..", "ä"}

// arbitraryCall makes a call of any kind on both, and compares what they return.
func arbitraryCall(t *testing.T, r *rand.Rand, d *disk.Disk, m *model) {
	t.Helper()
	some := places[:1+r.Intn(len(places))]
	p, to := some[r.Intn(len(some))], some[r.Intn(len(some))]
	what, got, want := "", api.OK, api.OK
	switch r.Intn(12) {
	case 0, 1, 2, 3:
		b, time := arbitraryBytes(r, r.Intn(8)), r.Intn(9)-3
		what, got, want = "Write "+p, d.Write(p, b, time), m.write(p, b, time)
	case 4, 5:
		what, got, want = "Rename "+p+" to "+to, d.Rename(p, to), m.rename(p, to)
	case 6, 7:
		what, got, want = "Remove "+p, d.Remove(p), m.remove(p)
	case 8, 9:
		at, mask := r.Intn(9)-1, byte(r.Intn(256))
		what, got, want = "Rot "+p, d.Rot(p, at, mask), m.rot(p, at, mask)
	case 10:
		what = "Sync"
		d.Sync()
		m.sync()
	case 11:
		what = "Crash"
		keep := arbitraryTruths(r, max(0, len(m.pending)+r.Intn(5)-2))
		d.Crash(keep)
		m.crash(keep)
	}
	if got != want {
		t.Fatalf("P8.1: %s: error %d instead of %d", what, got, want)
	}
	m.check(t, d, what)
}

func arbitraryBytes(r *rand.Rand, n int) []byte {
	b := make([]byte, n)
	r.Read(b)
	return b
}

func arbitraryTruths(r *rand.Rand, n int) []bool {
	l := make([]bool, n)
	for i := range l {
		l[i] = r.Intn(2) == 1
	}
	return l
}

// TestAnyCalls: on disks of several capacities.
func TestAnyCalls(t *testing.T) {
	for _, room := range []int{0, 3, 10, 25, 1 << 20} {
		for seed := range 150 {
			r := rand.New(rand.NewSource(int64(seed)))
			d, m := disk.New(room), newModel(room)
			for range 150 {
				arbitraryCall(t, r, d, m)
			}
		}
	}
}

// TestCrashesAfterAnyThreeChanges: those of a list, whichever of them are kept,
// after several durable states.
func TestCrashesAfterAnyThreeChanges(t *testing.T) {
	calls := []func(d *disk.Disk, m *model){
		func(d *disk.Disk, m *model) { d.Write("a", []byte("new"), 5); m.write("a", []byte("new"), 5) },
		func(d *disk.Disk, m *model) { d.Write("a/b", []byte("other"), 6); m.write("a/b", []byte("other"), 6) },
		func(d *disk.Disk, m *model) { d.Write("c", nil, 7); m.write("c", nil, 7) },
		func(d *disk.Disk, m *model) { d.Rename("a", "a/b"); m.rename("a", "a/b") },
		func(d *disk.Disk, m *model) { d.Rename("a/b", "a"); m.rename("a/b", "a") },
		func(d *disk.Disk, m *model) { d.Rename("a", "c"); m.rename("a", "c") },
		func(d *disk.Disk, m *model) { d.Rename("c", "a/d"); m.rename("c", "a/d") },
		func(d *disk.Disk, m *model) { d.Rename("c", "c"); m.rename("c", "c") },
		func(d *disk.Disk, m *model) { d.Remove("a"); m.remove("a") },
		func(d *disk.Disk, m *model) { d.Remove("a/b"); m.remove("a/b") },
		func(d *disk.Disk, m *model) { d.Remove("c"); m.remove("c") },
	}
	for _, durable := range [][]string{nil, {"a"}, {"c"}, {"a", "c"}, {"a/b", "a/d"}, {"a/b", "c"}} {
		for number := range len(calls) * len(calls) * len(calls) * 8 {
			d, m := disk.New(100), newModel(100)
			for i, p := range durable {
				d.Write(p, []byte(p), i)
				m.write(p, []byte(p), i)
			}
			d.Sync()
			m.sync()
			rest := number / 8
			for range 3 {
				calls[rest%len(calls)](d, m)
				rest /= len(calls)
			}
			for at, p := range d.Paths() {
				d.Rot(p, at, 1)
				m.rot(p, at, 1)
			}
			m.check(t, d, "three changes")
			keep := []bool{number&1 != 0, number&2 != 0, number&4 != 0}
			d.Crash(keep)
			m.crash(keep)
			m.check(t, d, "a crash after three changes")
		}
	}
}
