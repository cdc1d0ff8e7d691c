package disk_test

import (
	"bytes"
	"fmt"
	"math"
	"slices"
	"strings"
	"testing"

	"darner/api"
	"darner/disk"
)

// mostStored is the greatest number of bytes of a file.
const mostStored = 1 << 18

// seen is what a disk tells, as a text: its files, its bytes, and the number of
// its pending changes.
func seen(d *disk.Disk) string {
	var all []string
	for _, p := range d.Paths() {
		b, _ := d.Read(p)
		s, _ := d.Stat(p)
		all = append(all, fmt.Sprintf("%s=%s%v", p, b, s))
	}
	return strings.Join(append(all, fmt.Sprint(d.Used(), d.Waiting())), " ")
}

// with returns a disk of durable files, whose bytes are their paths, written at
// the times 1, 2, and so on.
func with(paths ...string) *disk.Disk {
	d := disk.New(1000)
	for i, p := range paths {
		d.Write(p, []byte(p), i+1)
	}
	d.Sync()
	return d
}

func checkSeen(t *testing.T, what string, d *disk.Disk, want string) {
	t.Helper()
	if got := seen(d); got != want {
		t.Errorf("P8.1: %s: %s instead of %s", what, got, want)
	}
}

func checkDone(t *testing.T, what string, e api.Errno) {
	t.Helper()
	if e != api.OK {
		t.Errorf("P8.1: %s: error %d", what, e)
	}
}

// checkRefused checks that a call returns an error, and has changed nothing.
func checkRefused(t *testing.T, what string, d *disk.Disk, want api.Errno, call func() api.Errno) {
	t.Helper()
	was := seen(d)
	if got := call(); got != want {
		t.Errorf("P8.1: %s: error %d instead of %d", what, got, want)
	}
	if got := seen(d); got != was {
		t.Errorf("P8.1, R4: %s: %.300s becomes %.300s", what, was, got)
	}
}

func checkWriteRefused(t *testing.T, what string, d *disk.Disk, want api.Errno, p string, size int) {
	t.Helper()
	checkRefused(t, what, d, want, func() api.Errno { return d.Write(p, make([]byte, size), 5) })
}

func TestNew(t *testing.T) {
	for room, want := range map[int]int{
		math.MinInt: 0, -1 << 32: 0, -1: 0, 0: 0, 1: 1, 2: 2, 1000: 1000,
		1<<20 - 1: 1<<20 - 1, 1 << 20: 1 << 20, 1<<20 + 1: 1 << 20, 1<<32 + 5: 1 << 20, math.MaxInt: 1 << 20,
	} {
		d := disk.New(room)
		if d.Room() != want {
			t.Errorf("P8.1: Room of New(%d): %d", room, d.Room())
		}
		checkSeen(t, fmt.Sprintf("New(%d)", room), d, "0 0")
	}
}

func TestDisksAreIndependent(t *testing.T) {
	a, b := disk.New(100), disk.New(100)
	a.Write("x", []byte("a"), 1)
	b.Write("y", []byte("bb"), 2)
	a.Sync()
	b.Crash([]bool{true})
	a.Rot("x", 0, 1)
	checkSeen(t, "one disk", a, "x=`{1 1 1} 1 0")
	checkSeen(t, "another disk", b, "y=bb{2 2 1} 2 0")
}

// TestCapacity: exactly so many bytes, and one more.
func TestCapacity(t *testing.T) {
	for _, room := range []int{-1, 0, 1, 2, 255, 256, 1000, mostStored - 1} {
		d := disk.New(room)
		checkDone(t, "no bytes", d.Write("none", nil, 0))
		checkWriteRefused(t, "a byte too many", d, api.ErrFull, "a", d.Room()+1)
		checkDone(t, "all bytes", d.Write("a", make([]byte, d.Room()), 0))
		if d.Used() != d.Room() {
			t.Errorf("P8.1: Used: %d of %d", d.Used(), d.Room())
		}
		checkWriteRefused(t, "another file of a byte", d, api.ErrFull, "b", 1)
		checkWriteRefused(t, "a file of no bytes gets one", d, api.ErrFull, "none", 1)
		checkDone(t, "another file of no bytes", d.Write("b", nil, 0))
	}
}

func TestGreatestCapacity(t *testing.T) {
	for _, room := range []int{1 << 20, 1<<20 + 1, math.MaxInt} {
		d := disk.New(room)
		for i := range 3 {
			checkDone(t, "a file of the greatest size", d.Write(fmt.Sprint("f", i), make([]byte, mostStored), 0))
		}
		checkDone(t, "a file with a byte less", d.Write("f3", make([]byte, mostStored-1), 0))
		checkWriteRefused(t, "two bytes more", d, api.ErrFull, "f4", 2)
		checkDone(t, "the last byte", d.Write("f4", make([]byte, 1), 0))
		checkWriteRefused(t, "a byte too many", d, api.ErrFull, "f5", 1)
		if d.Used() != 1<<20 {
			t.Errorf("P8.1: Used: %d", d.Used())
		}
	}
}

// TestCapacityAndOverwriting: what a file had does not count any more.
func TestCapacityAndOverwriting(t *testing.T) {
	d := disk.New(10)
	d.Write("a", []byte("1234"), 1)
	d.Write("b", []byte("5678"), 2)
	checkWriteRefused(t, "with more than there is room for", d, api.ErrFull, "b", 7)
	checkDone(t, "with more, all bytes", d.Write("b", []byte("567890"), 3))
	checkSeen(t, "with more, all bytes", d, "a=1234{4 1 1} b=567890{6 3 3} 10 3")
	checkWriteRefused(t, "with more, of a full disk", d, api.ErrFull, "a", 5)
	checkDone(t, "with as many", d.Write("a", []byte("abcd"), 4))
	checkDone(t, "with fewer", d.Write("b", []byte("x"), 5))
	checkSeen(t, "with fewer", d, "a=abcd{4 4 4} b=x{1 5 5} 5 5")
	checkDone(t, "into the room that became free", d.Write("c", []byte("12345"), 6))
	checkWriteRefused(t, "with one byte too many", d, api.ErrFull, "b", 2)
	checkDone(t, "with none", d.Write("a", nil, 7))
	checkSeen(t, "with none", d, "a={0 7 7} b=x{1 5 5} c=12345{5 6 6} 6 7")
	// What is removed, or replaced by a rename, leaves its room, though it is pending.
	d.Remove("c")
	checkDone(t, "where a file was removed", d.Write("d", []byte("123456789"), 8))
	d.Rename("b", "d")
	checkDone(t, "where a file was replaced", d.Write("e", []byte("123456789"), 9))
	checkSeen(t, "full again", d, "a={0 7 7} d=x{1 5 5} e=123456789{9 9 9} 10 11")
}

func TestGreatestFile(t *testing.T) {
	d := disk.New(1 << 20)
	checkWriteRefused(t, "a byte too many", d, api.ErrRange, "a", mostStored+1)
	b := bytes.Repeat([]byte{7}, mostStored)
	checkDone(t, "exactly MaxStored", d.Write("a", b, -3))
	if got, e := d.Read("a"); e != api.OK || !bytes.Equal(got, b) {
		t.Errorf("P8.1: Read of MaxStored bytes: %d bytes, error %d", len(got), e)
	}
	if s, e := d.Stat("a"); e != api.OK || s != (disk.Stamp{Size: mostStored, Time: -3, Change: 1}) {
		t.Errorf("P8.1: Stat of MaxStored bytes: %v, error %d", s, e)
	}
	checkWriteRefused(t, "overwritten with a byte too many", d, api.ErrRange, "a", mostStored+1)
	checkWriteRefused(t, "far too many", d, api.ErrRange, "b", 1<<24)
}

// manyFiles returns a disk of 64 files, of a byte each.
func manyFiles(room int) *disk.Disk {
	d := disk.New(room)
	for i := range api.MaxFiles {
		d.Write(fmt.Sprintf("d/f%02d", i), []byte{'x'}, i)
	}
	return d
}

func TestMostFiles(t *testing.T) {
	d := disk.New(1000)
	for i := range 64 {
		checkDone(t, fmt.Sprint("file ", i), d.Write(fmt.Sprintf("d/f%02d", i), []byte{'x'}, i))
	}
	checkWriteRefused(t, "file 64", d, api.ErrMany, "e", 0)
	checkWriteRefused(t, "file 64 again", d, api.ErrMany, "d/f64", 1)
	checkDone(t, "one of 64 files is overwritten", d.Write("d/f00", []byte("yy"), 1))
	checkDone(t, "one of 64 files is renamed", d.Rename("d/f00", "e"))
	checkWriteRefused(t, "another one than the renamed file", d, api.ErrMany, "d/f00", 0)
	checkDone(t, "one of 64 files is removed", d.Remove("d/f63"))
	checkDone(t, "another one in place of the removed file", d.Write("d/f64", nil, 1))
	checkDone(t, "one of 64 files is replaced", d.Rename("d/f01", "d/f02"))
	checkDone(t, "another one in place of the replaced file", d.Write("d/f01", nil, 1))
	checkWriteRefused(t, "a file too many", d, api.ErrMany, "f", 0)
	if got := len(d.Paths()); got != 64 {
		t.Errorf("P8.1: %d files", got)
	}
}

// TestWrittenPaths: any paths, but nothing that is none.
func TestWrittenPaths(t *testing.T) {
	for _, p := range []string{"a", "a/b", ".tmp~a", ".par~a", "a/.tmp~b", ".par~archive.0", "...", "conflict~1~x", strings.Repeat("a", 100), strings.Repeat("a/", 49) + "b"} {
		d := disk.New(10)
		checkDone(t, p, d.Write(p, []byte("1"), 2))
		checkSeen(t, p, d, p+"=1{1 2 1} 1 1")
	}
	for _, p := range []string{"", "/", ".", "..", "/a", "a/", "a//b", "a/..", "a b", "ä", "\xff", "a\x00", strings.Repeat("a", 101)} {
		d := with("b")
		checkWriteRefused(t, p, d, api.ErrPath, p, 1)
		checkWriteRefused(t, p, d, api.ErrPath, p, 0)
	}
}

func TestWriteToClashingPaths(t *testing.T) {
	d := with("a/b/c", "d")
	for _, p := range []string{"a", "a/b", "a/b/c/d", "a/b/c/d/e", "d/a", "d/d/d", "d/.tmp~a"} {
		checkWriteRefused(t, p, d, api.ErrThere, p, 1)
	}
	for _, p := range []string{"a/b/c", "a/b/d", "a/c", "a/b/cc", "b", "dd", "d.x", "e/d", "D", "A/b"} {
		checkDone(t, p, d.Write(p, nil, 1))
	}
}

// TestWriteWithTwoErrors: the first one that the chapter names is returned.
func TestWriteWithTwoErrors(t *testing.T) {
	// A file, 64 files, and 64 files without room, beside which a path clashes.
	one, many, full := with("d/f00"), manyFiles(1000), manyFiles(64)
	for _, c := range []struct {
		what string
		d    *disk.Disk
		p    string
		size int
		want api.Errno
	}{
		{"no path, too many bytes", one, "a//b", mostStored + 1, api.ErrPath},
		{"no path, a clash", one, "d/f00/..", 1, api.ErrPath},
		{"no path, too many files", many, "", 1, api.ErrPath},
		{"no path, no room", one, "a b", 1001, api.ErrPath},
		{"no path, everything else", full, "d/f00/..", mostStored + 1, api.ErrPath},
		{"too many bytes, a clash", one, "d", mostStored + 1, api.ErrRange},
		{"too many bytes, too many files", many, "e", mostStored + 1, api.ErrRange},
		{"too many bytes, no room", one, "e", mostStored + 1, api.ErrRange},
		{"too many bytes, everything else", full, "d", mostStored + 1, api.ErrRange},
		{"a clash, too many files", many, "d/f00/a", 1, api.ErrThere},
		{"a clash, no room", one, "d", 1001, api.ErrThere},
		{"a clash, too many files, no room", full, "d", 1, api.ErrThere},
		{"too many files, no room", full, "e", 1, api.ErrMany},
		{"no room only", full, "d/f00", 2, api.ErrFull},
	} {
		checkWriteRefused(t, c.what, c.d, c.want, c.p, c.size)
	}
}

func TestStamps(t *testing.T) {
	d := disk.New(1000)
	for i, time := range []int{0, 1, -1, 7, 7, 3, math.MaxInt, math.MinInt} {
		p, size := fmt.Sprint("f", i%3), 11*i%7
		checkDone(t, p, d.Write(p, make([]byte, size), time))
		if s, e := d.Stat(p); e != api.OK || s != (disk.Stamp{Size: size, Time: time, Change: i + 1}) {
			t.Errorf("P8.1: Stat after write %d, of %d bytes at %d: %v, error %d", i, size, time, s, e)
		}
	}
	// Others keep theirs.
	if s, _ := d.Stat("f2"); s != (disk.Stamp{Size: 11 * 5 % 7, Time: 3, Change: 6}) {
		t.Errorf("P8.1: Stat of a file that was not written any more: %v", s)
	}
}

// TestCounter: only writes increment it.
func TestCounter(t *testing.T) {
	d := disk.New(10)
	writes := func(what string, want int) {
		t.Helper()
		checkDone(t, what, d.Write("a", []byte{1}, 0))
		if s, _ := d.Stat("a"); s.Change != want {
			t.Errorf("P8.1: the counter after %s: %d instead of %d", what, s.Change, want)
		}
	}
	writes("nothing", 1)
	writes("a write", 2)
	d.Write("b", nil, 0)
	writes("two writes", 4)
	d.Rename("b", "c")
	d.Rename("c", "c")
	writes("two renames", 5)
	d.Remove("c")
	writes("a removal", 6)
	for _, call := range []func() api.Errno{
		func() api.Errno { return d.Write("", nil, 0) },
		func() api.Errno { return d.Write("b", make([]byte, mostStored+1), 0) },
		func() api.Errno { return d.Write("a/b", nil, 0) },
		func() api.Errno { return d.Write("b", make([]byte, 10), 0) },
		func() api.Errno { return d.Rename("x", "y") },
		func() api.Errno { return d.Rename("a", "") },
		func() api.Errno { return d.Remove("x") },
		func() api.Errno { return d.Rot("a", 1, 1) },
	} {
		if call() == api.OK {
			t.Error("P8.1: a call does not fail")
		}
	}
	writes("failed calls", 7)
	d.Rot("a", 0, 255)
	d.Sync()
	writes("rot and a sync", 8)
	writes("a write after it", 9)
	d.Crash(nil)
	if s, _ := d.Stat("a"); s.Change != 7 {
		t.Errorf("P8.1: the stamp after a crash: %v", s)
	}
	writes("a crash that keeps nothing", 10)
	d.Crash([]bool{true})
	writes("a crash that keeps a write", 11)
	d.Crash(nil)
	d.Crash(nil)
	writes("two crashes", 12)
}

func TestCounterOfManyFiles(t *testing.T) {
	d := manyFiles(1000)
	d.Write("e", nil, 0)
	d.Write("d/f63", nil, 0)
	if s, _ := d.Stat("d/f63"); s.Change != 65 {
		t.Errorf("P8.1: the counter after 64 files and one too many: %v", s)
	}
}

func TestRename(t *testing.T) {
	for _, c := range []struct {
		paths    []string
		from, to string
		want     string
	}{
		{[]string{"a"}, "a", "b", "b=a{1 1 1} 1 1"},
		{[]string{"a", "b"}, "a", "c/d", "b=b{1 2 2} c/d=a{1 1 1} 2 1"},
		// To itself: it is a change, too.
		{[]string{"a", "b"}, "a", "a", "a=a{1 1 1} b=b{1 2 2} 2 1"},
		// To that of another file, which is removed.
		{[]string{"a", "bbb"}, "a", "bbb", "bbb=a{1 1 1} 1 1"},
		{[]string{"a", "bbb"}, "bbb", "a", "a=bbb{3 2 2} 3 1"},
		{[]string{"d/a", "d/bc", "e"}, "d/a", "d/bc", "d/bc=d/a{3 1 1} e=e{1 3 3} 4 1"},
		// To one that clashes with itself.
		{[]string{"a", "b"}, "a", "a/b", "a/b=a{1 1 1} b=b{1 2 2} 2 1"},
		{[]string{"a/b", "b"}, "a/b", "a", "a=a/b{3 1 1} b=b{1 2 2} 4 1"},
		{[]string{"a/b/c", "b"}, "a/b/c", "a", "a=a/b/c{5 1 1} b=b{1 2 2} 6 1"},
		{[]string{"a"}, "a", "a/a/a", "a/a/a=a{1 1 1} 1 1"},
		{[]string{"a"}, "a", ".tmp~a", ".tmp~a=a{1 1 1} 1 1"},
		{[]string{"a"}, "a", strings.Repeat("b", 100), strings.Repeat("b", 100) + "=a{1 1 1} 1 1"},
	} {
		d := with(c.paths...)
		what := fmt.Sprintf("Rename(%q, %q) of %q", c.from, c.to, c.paths)
		checkDone(t, what, d.Rename(c.from, c.to))
		checkSeen(t, what, d, c.want)
		if _, e := d.Read(c.from); e != api.ErrNone && c.from != c.to {
			t.Errorf("P8.1: %s: Read of the former path: error %d", what, e)
		}
	}
}

func TestRenameErrors(t *testing.T) {
	for _, c := range []struct {
		paths    []string
		from, to string
		want     api.Errno
	}{
		{nil, "a", "b", api.ErrNone},
		{[]string{"a/b"}, "a", "c", api.ErrNone},
		{[]string{"a"}, "a/b", "c", api.ErrNone},
		{[]string{"a"}, "", "c", api.ErrNone},
		{[]string{"a"}, "b", "b", api.ErrNone},
		{[]string{"a"}, "a", "", api.ErrPath},
		{[]string{"a"}, "a", "/a", api.ErrPath},
		{[]string{"a"}, "a", "a/", api.ErrPath},
		{[]string{"a"}, "a", "a/..", api.ErrPath},
		{[]string{"a"}, "a", strings.Repeat("a", 101), api.ErrPath},
		{[]string{"a", "b"}, "a", "b/c", api.ErrThere},
		{[]string{"a", "b/c"}, "a", "b", api.ErrThere},
		{[]string{"a", "b/c/d"}, "a", "b", api.ErrThere},
		{[]string{"a/b", "a/c"}, "a/b", "a", api.ErrThere},
		{[]string{"a", "b"}, "a", "b/c/d", api.ErrThere},
		// Two errors: the first one that the chapter names.
		{[]string{"a"}, "b", "", api.ErrNone},
		{[]string{"a"}, "b", "a/c", api.ErrNone},
		{[]string{"a", "b"}, "a", "b/..", api.ErrPath},
	} {
		d := with(c.paths...)
		what := fmt.Sprintf("Rename(%q, %q) of %q", c.from, c.to, c.paths)
		checkRefused(t, what, d, c.want, func() api.Errno { return d.Rename(c.from, c.to) })
	}
}

func TestRemove(t *testing.T) {
	d := with("a", "b/c", "d")
	for _, p := range []string{"", "b", "a/b", "e", "A", "b/c/d", "/", "a/"} {
		checkRefused(t, "Remove "+p, d, api.ErrNone, func() api.Errno { return d.Remove(p) })
	}
	checkDone(t, "Remove", d.Remove("b/c"))
	checkSeen(t, "Remove", d, "a=a{1 1 1} d=d{1 3 3} 2 1")
	checkRefused(t, "Remove once more", d, api.ErrNone, func() api.Errno { return d.Remove("b/c") })
	checkDone(t, "Write where a file was", d.Write("b", []byte("new"), 9))
	checkDone(t, "Remove", d.Remove("a"))
	checkDone(t, "Remove", d.Remove("d"))
	checkSeen(t, "Remove of all others", d, "b=new{3 9 4} 3 4")
}

// TestMissingFiles: never written, removed, and renamed.
func TestMissingFiles(t *testing.T) {
	d := with("a", "b/c", "d")
	d.Remove("a")
	d.Rename("d", "e")
	for _, p := range []string{"a", "d", "b", "b/c/d", "f", "", "/", "b/", "B/c", "e/", strings.Repeat("a", 1000)} {
		if b, e := d.Read(p); e != api.ErrNone || len(b) != 0 {
			t.Errorf("P8.1, R3: Read(%q): %q, error %d", p, b, e)
		}
		if s, e := d.Stat(p); e != api.ErrNone || s != (disk.Stamp{}) {
			t.Errorf("P8.1, R3: Stat(%q): %v, error %d", p, s, e)
		}
		checkRefused(t, "Rot "+p, d, api.ErrNone, func() api.Errno { return d.Rot(p, 0, 1) })
		checkRefused(t, "Rot "+p, d, api.ErrNone, func() api.Errno { return d.Rot(p, -1, 0) })
	}
}

func TestPaths(t *testing.T) {
	want := []string{"+", "-", ".par~x", ".tmp~x", "0", "9", "A", "B", "Z", "_", "a", "a+", "a-/b", "a.b", "aB", "aa", "b-", "b/a", "b/a.b", "b/aa", "b/b/c", "b0", "z/z", "~"}
	d := disk.New(0)
	for i := range want {
		d.Write(want[(i*7+5)%len(want)], nil, i)
	}
	if got := d.Paths(); !slices.Equal(got, want) {
		t.Errorf("P8.1: Paths: %q instead of %q", got, want)
	}
	d.Rename("+", "zz")
	d.Remove("B")
	want = append(slices.DeleteFunc(want[1:len(want)-1], func(p string) bool { return p == "B" }), "zz", "~")
	if got := d.Paths(); !slices.Equal(got, want) {
		t.Errorf("P8.1: Paths after a rename and a removal: %q instead of %q", got, want)
	}
}
