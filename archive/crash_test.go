package archive_test

import (
	"bytes"
	"fmt"
	"math/rand"
	"testing"

	"darner/api"
	"darner/archive"
	"darner/disk"
	"darner/record"
)

// An interruption is a Save that does not get to its end.
type interruption struct {
	before func() *disk.Disk // The disk, with what is pending before the Save.
	old    string            // What Load gives before it, empty if there is nothing.
	next   *archive.Archive  // What is saved.
	later  string            // What Load gives behind it,
	bytes  []byte            // and the encoding of that.
}

// interrupted returns the interruption of a Save.
func interrupted(before func() *disk.Disk, old string, next *archive.Archive) interruption {
	c := next.Copy()
	if e := c.Save(disk.New(maxRoom), 1); e != api.OK {
		panic(fmt.Sprint("Save: ", e))
	}
	return interruption{before, old, next, seen(c), c.Bytes()}
}

// steps are those of a Save of bytes, as the chapter defines them.
func steps(d *disk.Disk, b []byte) []func() {
	return []func(){
		func() { d.Write(first, b, -70) },
		func() { d.Sync() },
		func() { d.Write(second, b, -70) },
		func() { d.Sync() },
	}
}

// crashed calls f with the disk behind a crash, for each number of steps that
// were done and each subset of the pending changes that is kept.
func (x interruption) crashed(f func(what string, done int, d *disk.Disk)) {
	for done := range 5 {
		for number := 0; ; number++ {
			d := x.before()
			for _, step := range steps(d, x.bytes)[:done] {
				step()
			}
			if number >= 1<<d.Waiting() {
				break
			}
			keep := make([]bool, d.Waiting())
			for i := range keep {
				keep[i] = number>>i&1 == 1
			}
			d.Crash(keep)
			f(fmt.Sprint("behind ", done, " steps, with ", keep, " kept"), done, d)
		}
	}
}

// check checks that Load gives the old archive or the new one, or only the new
// one, and how many of the copies are its encoding.
func (x interruption) check(t *testing.T, what string, d *disk.Disk, onlyNew bool) {
	t.Helper()
	a, n, e := archive.Load(d)
	if x.old == "" && !onlyNew && a == nil && n == 0 && e == api.ErrNone {
		return
	}
	got := seen(a)
	if e != api.OK || got != x.later && (onlyNew || got != x.old) {
		t.Errorf("P11.3: Load %s: %.300s, error %d, with %.300s before the Save, %.300s behind it", what, got, e, x.old, x.later)
		return
	}
	same := 0
	for _, p := range []string{first, second} {
		if b, e := d.Read(p); e == api.OK && bytes.Equal(b, a.Bytes()) {
			same++
		}
	}
	if n != same {
		t.Errorf("P11.1: Load %s: %d copies instead of %d", what, n, same)
	}
}

// rotted calls f with bytes of the disk rotted, some in one of the copies, some
// in the other one.
func rotted(random *rand.Rand, d *disk.Disk, f func(what string)) {
	for _, p := range []string{first, second} {
		s, e := d.Stat(p)
		if e != api.OK {
			continue
		}
		for _, i := range []int{0, 1, s.Size - 33, s.Size - 1, random.Intn(s.Size), random.Intn(s.Size)} {
			mask := byte(1 + random.Intn(255))
			d.Rot(p, i, mask)
			f(fmt.Sprintf(", with byte %d of %s rotted", i, p))
			d.Rot(p, i, mask)
		}
	}
}

// interruptions are Saves over two copies of an archive.
func interruptions() []interruption {
	var l []interruption
	small := []record.Record{dead("a"), live("b", 300), live("c", 0)}
	for _, before := range [][]record.Record{nil, {live("a", 300)}, small} {
		for _, after := range [][]record.Record{nil, {dead("a")}, small} {
			for _, generation := range []int{1, 127, maxCount - 1} {
				b := encoding(generation, before...)
				disk := func() *disk.Disk { return storing(b, b) }
				l = append(l, interrupted(disk, state(generation, before...), at(generation, after...)))
			}
		}
	}
	return l
}

// TestStepsAreThoseOfSave: the disk is as it is behind a Save, with the stamps.
func TestStepsAreThoseOfSave(t *testing.T) {
	for _, x := range interruptions() {
		done, real := x.before(), x.before()
		for _, step := range steps(done, x.bytes) {
			step()
		}
		checkError(t, "Save", x.next.Copy().Save(real, -70), api.OK)
		if shown(done) != shown(real) {
			t.Errorf("P11.1: Save: the disk is %.300s\ninstead of %.300s", shown(real), shown(done))
		}
	}
}

func TestCrashesWithinSave(t *testing.T) {
	random := rand.New(rand.NewSource(6))
	for _, x := range interruptions() {
		x.crashed(func(what string, done int, d *disk.Disk) {
			x.check(t, what, d, done >= 2)
			switch done {
			case 0:
				checkLoad(t, what, d, x.old, 2, api.OK)
			case 2:
				checkLoad(t, what, d, x.later, 1, api.OK)
			case 4:
				checkLoad(t, what, d, x.later, 2, api.OK)
			}
			rotted(random, d, func(rot string) { x.check(t, what+rot, d, done == 4) })
		})
	}
}

// TestCrashesWithinFirstSave: there are no copies before it. What is there
// behind it is complete.
func TestCrashesWithinFirstSave(t *testing.T) {
	random := rand.New(rand.NewSource(7))
	for _, l := range examples() {
		x := interrupted(func() *disk.Disk { return holding(maxRoom) }, "", with(l...))
		x.crashed(func(what string, done int, d *disk.Disk) {
			x.check(t, "of the first Save "+what, d, done >= 2)
			if done == 4 {
				rotted(random, d, func(rot string) { x.check(t, what+rot, d, true) })
			}
		})
	}
}

// TestCrashesWithOtherChanges: files are pending that are not the archive's. All
// subsets of the changes are kept.
func TestCrashesWithOtherChanges(t *testing.T) {
	random := rand.New(rand.NewSource(8))
	for _, x := range interruptions() {
		before := x.before
		x.before = func() *disk.Disk {
			d := before()
			d.Write("b/c", content(40), 5)
			d.Rename("a", "d")
			d.Remove("b/c")
			d.Write("b", content(30), 6)
			return d
		}
		x.crashed(func(what string, done int, d *disk.Disk) {
			x.check(t, "with other changes "+what, d, done >= 2)
			rotted(random, d, func(rot string) { x.check(t, what+rot, d, done == 4) })
		})
	}
}

// TestCrashesWithOneCopy: the other one is missing, damaged or an earlier one
// before the Save.
func TestCrashesWithOneCopy(t *testing.T) {
	small := []record.Record{dead("a"), live("b", 300)}
	good, next := encoding(5, small...), at(5, dead("a"))
	worse := noEncodings()
	worse["missing"] = nil
	worse["an earlier one"] = encoding(4, live("b", 3))
	for bad, other := range worse {
		for what, before := range map[string]func() *disk.Disk{
			"the first copy is good":  func() *disk.Disk { return storing(good, other) },
			"the second copy is good": func() *disk.Disk { return storing(other, good) },
		} {
			x := interrupted(before, state(5, small...), next)
			x.crashed(func(crash string, done int, d *disk.Disk) {
				x.check(t, what+", the other one is "+bad+", "+crash, d, done >= 2)
			})
		}
	}
}

// TestSavesAndCrashes: Saves one after the other, some of them interrupted, each
// of what was loaded before. Nothing but what was saved is ever loaded.
func TestSavesAndCrashes(t *testing.T) {
	random := rand.New(rand.NewSource(9))
	for range 20 {
		d := holding(maxRoom, file{"a", 5})
		a := with(live("a", 5))
		checkError(t, "Save", a.Save(d, 1), api.OK)
		for i := range 20 {
			old := seen(a)
			a.Set(live(fmt.Sprint("f", random.Intn(20)), random.Intn(1000)))
			x := interrupted(nil, old, a)
			done := random.Intn(5)
			for _, step := range steps(d, x.bytes)[:done] {
				step()
			}
			d.Crash([]bool{random.Intn(2) == 0})
			x.check(t, fmt.Sprint("of Save ", i, ", behind ", done, " steps"), d, done >= 2)
			a, _, _ = archive.Load(d)
			checkError(t, "Save behind a crash", a.Save(d, i), api.OK)
			checkLoad(t, "of a Save behind a crash", d, seen(a), 2, api.OK)
		}
	}
}
