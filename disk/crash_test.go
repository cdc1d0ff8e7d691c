package disk_test

import (
	"fmt"
	"slices"
	"testing"

	"darner/api"
	"darner/disk"
)

// TestSync: what is synced outlives crashes, and nothing is pending.
func TestSync(t *testing.T) {
	d := disk.New(100)
	d.Sync()
	checkSeen(t, "Sync of an empty disk", d, "0 0")
	d.Write("a", []byte("1"), 1)
	d.Write("b", []byte("2"), 2)
	d.Rename("a", "c")
	checkSeen(t, "before Sync", d, "b=2{1 2 2} c=1{1 1 1} 2 3")
	for range 2 {
		d.Sync()
		checkSeen(t, "after Sync", d, "b=2{1 2 2} c=1{1 1 1} 2 0")
		d.Crash([]bool{false, false, false, true})
		checkSeen(t, "after Sync and a crash", d, "b=2{1 2 2} c=1{1 1 1} 2 0")
	}
	d.Remove("b")
	d.Sync()
	d.Crash(nil)
	checkSeen(t, "after Sync of a removal, and a crash", d, "c=1{1 1 1} 1 0")
	d.Write("c", []byte("3"), 3)
	d.Sync()
	d.Write("c", []byte("4"), 4)
	d.Crash(nil)
	checkSeen(t, "after Sync of the first of two writes, and a crash", d, "c=3{1 3 3} 1 0")
}

func TestWaiting(t *testing.T) {
	d := disk.New(10)
	waits := func(what string, want int) {
		t.Helper()
		if got := d.Waiting(); got != want {
			t.Errorf("P8.1: Waiting after %s: %d instead of %d", what, got, want)
		}
	}
	waits("New", 0)
	d.Write("a", []byte("1"), 1)
	waits("a write", 1)
	d.Write("a", []byte("1"), 1)
	waits("the same write", 2)
	d.Rename("a", "a")
	waits("a rename to itself", 3)
	d.Rename("a", "b")
	waits("a rename", 4)
	d.Rot("b", 0, 1)
	waits("rot", 4)
	d.Remove("b")
	waits("a removal", 5)
	d.Remove("b")
	d.Rename("b", "c")
	d.Write("", nil, 1)
	d.Rot("b", 0, 1)
	waits("failed calls", 5)
	d.Read("a")
	d.Stat("a")
	d.Paths()
	waits("reading", 5)
	d.Crash([]bool{true, true})
	waits("a crash", 0)
	d.Rename("a", "b")
	waits("a rename after a crash", 1)
	d.Sync()
	waits("Sync", 0)
}

// TestCrash: lists of all lengths, from none to one that is too long, state in
// all ways which of four independent changes are kept.
func TestCrash(t *testing.T) {
	for n := range 7 {
		for number := range 1 << n {
			var keep []bool
			for i := range n {
				keep = append(keep, number>>i&1 == 1)
			}
			kept := func(i int) bool { return i < n && keep[i] }
			a, b, c, e, used := "a=a{1 1 1} ", "b=b{1 2 2} ", "c=c{1 3 3} ", "", 3
			if kept(0) {
				a, used = "a=new{3 7 4} ", used+2
			}
			if kept(1) {
				b, used = "", used-1
			}
			if kept(2) {
				c = "d=c{1 3 3} "
			}
			if kept(3) {
				e = "e={0 8 5} "
			}
			d := with("a", "b", "c")
			d.Write("a", []byte("new"), 7)
			d.Remove("b")
			d.Rename("c", "d")
			d.Write("e", nil, 8)
			d.Crash(keep)
			want := fmt.Sprint(a, b, c, e, used, 0)
			checkSeen(t, fmt.Sprint("Crash ", keep), d, want)
			// The result is the durable state, too.
			d.Remove("a")
			d.Crash([]bool{false, true, true, true, true})
			checkSeen(t, fmt.Sprint("Crash ", keep, ", and another one"), d, want)
		}
	}
}

// A scenario is of changes after a durable state, of which some are kept.
type scenario struct {
	what    string
	durable []string
	do      func(d *disk.Disk)
	keep    []bool
	want    string
}

func scenarios() []scenario {
	return []scenario{
		// A rename or a removal of a missing file does nothing.
		{"a removal of what was not kept", []string{"x"}, func(d *disk.Disk) { d.Write("a", nil, 7); d.Remove("a") },
			[]bool{false, true}, "x=x{1 1 1} 1 0"},
		{"a removal of what kept its path", []string{"a"}, func(d *disk.Disk) { d.Rename("a", "b"); d.Remove("b") },
			[]bool{false, true}, "a=a{1 1 1} 1 0"},
		{"a removal of another file", []string{"a"}, func(d *disk.Disk) { d.Write("a", nil, 7); d.Remove("a") },
			[]bool{false, true}, "0 0"},
		{"two removals", []string{"a"}, func(d *disk.Disk) { d.Remove("a"); d.Write("a", nil, 7); d.Remove("a") },
			[]bool{true, false, true}, "0 0"},
		{"a rename of what was not kept", []string{"x"}, func(d *disk.Disk) { d.Write("a", nil, 7); d.Rename("a", "b") },
			[]bool{false, true}, "x=x{1 1 1} 1 0"},
		{"a rename of what was not kept, to a file", []string{"x"}, func(d *disk.Disk) { d.Write("a", nil, 7); d.Rename("a", "x") },
			[]bool{false, true}, "x=x{1 1 1} 1 0"},
		{"a rename of what was not kept, to a path that clashes", []string{"x/y"}, func(d *disk.Disk) { d.Remove("x/y"); d.Write("a", nil, 7); d.Rename("a", "x") },
			[]bool{false, false, true}, "x/y=x/y{3 1 1} 3 0"},
		{"a rename of what was not kept, to itself", []string{"x"}, func(d *disk.Disk) { d.Write("a", nil, 7); d.Rename("a", "a") },
			[]bool{false, true}, "x=x{1 1 1} 1 0"},
		{"a rename of another file", []string{"a"}, func(d *disk.Disk) { d.Write("a", nil, 7); d.Rename("a", "b") },
			[]bool{false, true}, "b=a{1 1 1} 1 0"},
		{"the second one of two renames", []string{"a"}, func(d *disk.Disk) { d.Rename("a", "b"); d.Rename("b", "c") },
			[]bool{false, true}, "a=a{1 1 1} 1 0"},
		{"the first one of two renames", []string{"a"}, func(d *disk.Disk) { d.Rename("a", "b"); d.Rename("b", "c") },
			[]bool{true, false}, "b=a{1 1 1} 1 0"},
		{"a rename, but not that of the file in its way", []string{"a", "b"}, func(d *disk.Disk) { d.Rename("b", "c"); d.Rename("a", "b") },
			[]bool{false, true}, "b=a{1 1 1} 1 0"},
		// A write, or a rename, to a path that clashes with others removes these.
		{"a write above a file", []string{"a/b", "x"}, func(d *disk.Disk) { d.Remove("a/b"); d.Write("a", []byte("new"), 7) },
			[]bool{false, true}, "a=new{3 7 3} x=x{1 2 2} 4 0"},
		{"a write above several files", []string{"a/b", "a/c/d", "ab", "b/a"}, func(d *disk.Disk) { d.Remove("a/b"); d.Remove("a/c/d"); d.Write("a", nil, 7) },
			[]bool{false, false, true}, "a={0 7 5} ab=ab{2 3 3} b/a=b/a{3 4 4} 5 0"},
		{"a write below a file", []string{"a", "x"}, func(d *disk.Disk) { d.Remove("a"); d.Write("a/b/c", []byte("new"), 7) },
			[]bool{false, true}, "a/b/c=new{3 7 3} x=x{1 2 2} 4 0"},
		{"a write below a file that kept its path", []string{"a"}, func(d *disk.Disk) { d.Rename("a", "b"); d.Write("a/b", nil, 7) },
			[]bool{false, true}, "a/b={0 7 2} 0 0"},
		{"a rename above a file", []string{"a/b", "x"}, func(d *disk.Disk) { d.Remove("a/b"); d.Rename("x", "a") },
			[]bool{false, true}, "a=x{1 2 2} 1 0"},
		{"a rename above several files", []string{"a/b", "a/c", "x"}, func(d *disk.Disk) { d.Remove("a/b"); d.Remove("a/c"); d.Rename("x", "a") },
			[]bool{false, false, true}, "a=x{1 3 3} 1 0"},
		{"a rename below a file", []string{"a", "x"}, func(d *disk.Disk) { d.Remove("a"); d.Rename("x", "a/b") },
			[]bool{false, true}, "a/b=x{1 2 2} 1 0"},
		{"a rename below itself", []string{"a"}, func(d *disk.Disk) { d.Rename("a", "a/b") },
			[]bool{true}, "a/b=a{1 1 1} 1 0"},
		{"a rename above itself, beside another file", []string{"a/b", "a/c"}, func(d *disk.Disk) { d.Remove("a/c"); d.Rename("a/b", "a") },
			[]bool{false, true}, "a=a/b{3 1 1} 3 0"},
		{"two writes that clash, with the removal between them not kept", nil, func(d *disk.Disk) { d.Write("a", nil, 7); d.Remove("a"); d.Write("a/b", nil, 8) },
			[]bool{true, false, true}, "a/b={0 8 2} 0 0"},
		// In order, each to what the ones before it have made.
		{"a write of a written file, the first one kept", []string{"a"}, func(d *disk.Disk) { d.Write("a", []byte("1"), 7); d.Write("a", []byte("2"), 8) },
			[]bool{true, false}, "a=1{1 7 2} 1 0"},
		{"a write of a written file, both kept", []string{"a"}, func(d *disk.Disk) { d.Write("a", []byte("1"), 7); d.Write("a", []byte("2"), 8) },
			[]bool{true, true}, "a=2{1 8 3} 1 0"},
		{"through the temp path, all kept", []string{"a"}, func(d *disk.Disk) { d.Write(".tmp~a", []byte("new"), 7); d.Rename(".tmp~a", "a") },
			[]bool{true, true}, "a=new{3 7 2} 3 0"},
		{"through the temp path, without the rename", []string{"a"}, func(d *disk.Disk) { d.Write(".tmp~a", []byte("new"), 7); d.Rename(".tmp~a", "a") },
			[]bool{true, false}, ".tmp~a=new{3 7 2} a=a{1 1 1} 4 0"},
		{"through the temp path, only the rename", []string{"a"}, func(d *disk.Disk) { d.Write(".tmp~a", []byte("new"), 7); d.Rename(".tmp~a", "a") },
			[]bool{false, true}, "a=a{1 1 1} 1 0"},
		{"a removal, and a write that is not kept", []string{"a"}, func(d *disk.Disk) { d.Remove("a"); d.Write("a", nil, 7) },
			[]bool{true, false}, "0 0"},
		// A failed call is no change.
		{"a failed call between two writes", nil, func(d *disk.Disk) { d.Write("a", nil, 7); d.Write("a/b", nil, 8); d.Remove("x"); d.Write("b", nil, 9) },
			[]bool{false, true}, "b={0 9 2} 0 0"},
	}
}

func TestCrashScenarios(t *testing.T) {
	for _, c := range scenarios() {
		changed := func() *disk.Disk {
			d := with(c.durable...)
			c.do(d)
			return d
		}
		d := changed()
		d.Crash(c.keep)
		checkSeen(t, c.what, d, c.want)
		d.Crash(nil)
		checkSeen(t, c.what+", and another crash", d, c.want)
		if first, second, found := clash(d.Paths()); found {
			t.Errorf("P8.1: %s: %s and %s clash", c.what, first, second)
		}

		nothing := changed()
		nothing.Crash(nil)
		checkSeen(t, c.what+", nothing kept", nothing, seen(with(c.durable...)))

		everything, synced := changed(), changed()
		everything.Crash(slices.Repeat([]bool{true}, everything.Waiting()))
		synced.Sync()
		checkSeen(t, c.what+", everything kept", everything, seen(synced))
	}
}

// clash returns two paths of a list that clash.
func clash(l []string) (first, second string, found bool) {
	for _, a := range l {
		for _, b := range l {
			if clashing(a, b) {
				return a, b, true
			}
		}
	}
	return "", "", false
}

// TestCrashBeyondLimits: where a removal is not kept, but what was written into
// its place is, there may be more than a disk has room for. A write must then
// leave no more files, and no more bytes, than permitted.
func TestCrashBeyondLimits(t *testing.T) {
	d := disk.New(10)
	d.Write("a", []byte("12345678"), 1)
	d.Sync()
	d.Remove("a")
	d.Write("b", []byte("abcdefgh"), 2)
	d.Crash([]bool{false, true})
	checkSeen(t, "more bytes than the capacity", d, "a=12345678{8 1 1} b=abcdefgh{8 2 2} 16 0")
	checkWriteRefused(t, "no bytes more", d, api.ErrFull, "c", 0)
	checkWriteRefused(t, "too few bytes less", d, api.ErrFull, "a", 3)
	checkDone(t, "bytes enough less", d.Write("a", []byte("12"), 3))
	checkSeen(t, "bytes enough less", d, "a=12{2 3 3} b=abcdefgh{8 2 2} 10 1")

	d = manyFiles(1000)
	d.Sync()
	d.Remove("d/f63")
	d.Write("e", nil, 1)
	d.Crash([]bool{false, true})
	if got := len(d.Paths()); got != 65 {
		t.Errorf("P8.1: %d files after a crash", got)
	}
	checkWriteRefused(t, "one of 65 files is overwritten", d, api.ErrMany, "e", 0)
	checkDone(t, "one of 65 files is removed", d.Remove("d/f63"))
	checkDone(t, "one of 64 files is overwritten", d.Write("e", []byte("x"), 2))
	checkWriteRefused(t, "file 64", d, api.ErrMany, "f", 0)
}

// TestRotScenarios: what rots, rots in all states and changes that have it, and
// nothing else does.
func TestRotScenarios(t *testing.T) {
	for _, c := range []scenario{
		{"durable", []string{"a"}, func(d *disk.Disk) { d.Rot("a", 0, 3) }, nil, "a=b{1 1 1} 1 0"},
		{"pending, kept", nil, func(d *disk.Disk) { d.Write("a", []byte("a"), 7); d.Rot("a", 0, 3) }, []bool{true}, "a=b{1 7 1} 1 0"},
		{"pending, not kept", nil, func(d *disk.Disk) { d.Write("a", []byte("a"), 7); d.Rot("a", 0, 3) }, nil, "0 0"},
		{"durable, and renamed, kept", []string{"a"}, func(d *disk.Disk) { d.Rename("a", "x"); d.Rot("x", 0, 3) }, []bool{true}, "x=b{1 1 1} 1 0"},
		{"durable, and renamed, not kept", []string{"a"}, func(d *disk.Disk) { d.Rename("a", "x"); d.Rot("x", 0, 3) }, nil, "a=b{1 1 1} 1 0"},
		{"durable, renamed behind it, kept", []string{"a"}, func(d *disk.Disk) { d.Rot("a", 0, 3); d.Rename("a", "x") }, []bool{true}, "x=b{1 1 1} 1 0"},
		{"durable, renamed behind it, not kept", []string{"a"}, func(d *disk.Disk) { d.Rot("a", 0, 3); d.Rename("a", "x") }, nil, "a=b{1 1 1} 1 0"},
		{"durable, removed behind it, not kept", []string{"a"}, func(d *disk.Disk) { d.Rot("a", 0, 3); d.Remove("a") }, nil, "a=b{1 1 1} 1 0"},
		{"durable, overwritten behind it, not kept", []string{"a"}, func(d *disk.Disk) { d.Rot("a", 0, 3); d.Write("a", []byte("c"), 7) }, nil, "a=b{1 1 1} 1 0"},
		{"durable, overwritten behind it, kept", []string{"a"}, func(d *disk.Disk) { d.Rot("a", 0, 3); d.Write("a", []byte("c"), 7) }, []bool{true}, "a=c{1 7 2} 1 0"},
		// What was overwritten has bytes of its own, which do not rot.
		{"pending over durable, kept", []string{"a"}, func(d *disk.Disk) { d.Write("a", []byte("p"), 7); d.Rot("a", 0, 3) }, []bool{true}, "a=s{1 7 2} 1 0"},
		{"pending over durable, not kept", []string{"a"}, func(d *disk.Disk) { d.Write("a", []byte("p"), 7); d.Rot("a", 0, 3) }, nil, "a=a{1 1 1} 1 0"},
		{"pending over pending, both kept", nil, func(d *disk.Disk) { d.Write("a", []byte("p"), 7); d.Write("a", []byte("q"), 8); d.Rot("a", 0, 3) }, []bool{true, true}, "a=r{1 8 2} 1 0"},
		{"pending over pending, the first one kept", nil, func(d *disk.Disk) { d.Write("a", []byte("p"), 7); d.Write("a", []byte("q"), 8); d.Rot("a", 0, 3) }, []bool{true}, "a=p{1 7 1} 1 0"},
		{"a renamed file over a durable one, kept", []string{"a", "e"}, func(d *disk.Disk) { d.Rename("a", "e"); d.Rot("e", 0, 3) }, []bool{true}, "e=b{1 1 1} 1 0"},
		{"a renamed file over a durable one, not kept", []string{"a", "e"}, func(d *disk.Disk) { d.Rename("a", "e"); d.Rot("e", 0, 3) }, nil, "a=b{1 1 1} e=e{1 2 2} 2 0"},
		{"a written and renamed file, only the write kept", nil, func(d *disk.Disk) { d.Write("a", []byte("a"), 7); d.Rename("a", "x"); d.Rot("x", 0, 3) }, []bool{true}, "a=b{1 7 1} 1 0"},
		{"beside another file of the same bytes", nil, func(d *disk.Disk) { d.Write("a", []byte("a"), 7); d.Write("x", []byte("a"), 7); d.Rot("a", 0, 3) }, []bool{true, true}, "a=b{1 7 1} x=a{1 7 2} 2 0"},
		{"twice, in the same byte", []string{"a"}, func(d *disk.Disk) { d.Rot("a", 0, 3); d.Rot("a", 0, 1) }, nil, "a=c{1 1 1} 1 0"},
		{"there and back", []string{"a"}, func(d *disk.Disk) { d.Rot("a", 0, 99); d.Rot("a", 0, 99) }, nil, "a=a{1 1 1} 1 0"},
		{"no bits", []string{"a"}, func(d *disk.Disk) { d.Rot("a", 0, 0) }, nil, "a=a{1 1 1} 1 0"},
		{"the last byte", []string{"a/b"}, func(d *disk.Disk) { d.Rot("a/b", 2, 1) }, nil, "a/b=a/c{3 1 1} 3 0"},
		{"after a crash that kept the write", nil, func(d *disk.Disk) { d.Write("a", []byte("a"), 7); d.Crash([]bool{true}); d.Rot("a", 0, 3) }, nil, "a=b{1 7 1} 1 0"},
	} {
		d := with(c.durable...)
		c.do(d)
		d.Crash(c.keep)
		checkSeen(t, "rot "+c.what, d, c.want)
		d.Crash(nil)
		checkSeen(t, "rot "+c.what+", and another crash", d, c.want)
	}
}

// TestRot: each byte and each bit, in the visible state at once.
func TestRot(t *testing.T) {
	d := disk.New(100)
	d.Write("a", make([]byte, 5), 7)
	d.Write("none", nil, 8)
	want := make([]byte, 5)
	for at := range 5 {
		for mask := range 256 {
			checkDone(t, "Rot", d.Rot("a", at, byte(mask)))
			want[at] ^= byte(mask)
			checkSeen(t, fmt.Sprintf("Rot of byte %d by %d", at, mask), d, fmt.Sprintf("a=%s{5 7 1} none={0 8 2} 5 2", want))
		}
	}
}

func TestRotErrors(t *testing.T) {
	d := with("abc", "b/c")
	d.Write("none", nil, 1)
	d.Write("b/c", []byte("12"), 1)
	for _, c := range []struct {
		p    string
		at   int
		mask byte
		want api.Errno
	}{
		{"abc", -1, 1, api.ErrRange}, {"abc", 3, 1, api.ErrRange}, {"abc", 4, 0, api.ErrRange}, {"abc", -1, 0, api.ErrRange},
		{"abc", 1 << 62, 1, api.ErrRange}, {"abc", -1 << 63, 1, api.ErrRange}, {"abc", 1 << 32, 1, api.ErrRange},
		{"none", 0, 1, api.ErrRange}, {"none", -1, 1, api.ErrRange}, {"none", 0, 0, api.ErrRange},
		{"b/c", 2, 1, api.ErrRange}, {"b/c", 3, 1, api.ErrRange},
		{"ab", 0, 1, api.ErrNone}, {"b", 0, 1, api.ErrNone}, {"", 0, 1, api.ErrNone}, {"b/c/d", -1, 1, api.ErrNone}, {"a//b", 0, 0, api.ErrNone},
	} {
		checkRefused(t, fmt.Sprintf("Rot(%q, %d, %d)", c.p, c.at, c.mask), d, c.want, func() api.Errno { return d.Rot(c.p, c.at, c.mask) })
	}
	checkDone(t, "Rot of the last byte, no bits", d.Rot("abc", 2, 0))
	checkDone(t, "Rot of the last byte that is left", d.Rot("b/c", 1, 1))
}
