package disk_test

import (
	"bytes"
	"slices"
	"strings"
	"testing"
	"unsafe"

	"darner/api"
	"darner/disk"
)

// overwrite changes all bytes, also those of the spare capacity.
func overwrite(b []byte) {
	all := b[:cap(b)]
	for i := range all {
		all[i] += 0xa5
	}
}

var sizes = []int{0, 1, 2, 7, 8, 9, 31, 32, 33, 255, 256, 1000, 16384, 1 << 18}

// TestWrittenBytes: they are neither modified nor retained, whatever becomes of
// the file.
func TestWrittenBytes(t *testing.T) {
	for _, size := range sizes {
		whole := bytes.Repeat([]byte("abcdefghijklm"), size/13+5)
		was, part := bytes.Clone(whole), whole[3:3+size]
		d := disk.New(1 << 20)
		checkDone(t, "Write", d.Write("a", part, 1))
		checkDone(t, "Write", d.Write("b", part, 1))
		for at := range min(size, 3) {
			d.Rot("a", at, 1)
			d.Rot("b", size-1-at, 255)
		}
		d.Crash([]bool{true})
		d.Rot("a", 0, 8)
		d.Sync()
		d.Rot("a", 0, 8)
		if !bytes.Equal(whole, was) {
			t.Errorf("P8.1, R6: %d bytes: the argument of Write is modified", size)
		}
		checkDone(t, "Write", d.Write("c", part, 1))
		checkDone(t, "Write", d.Write("a", part, 1))
		overwrite(whole)
		d.Crash([]bool{true, true})
		for _, p := range []string{"a", "c"} {
			if b, e := d.Read(p); e != api.OK || !bytes.Equal(b, was[3:3+size]) {
				t.Errorf("P8.1, R6: %d bytes: the argument of Write is retained", size)
			}
		}
	}
}

// TestReadBytes: they share no memory with the disk, or with each other.
func TestReadBytes(t *testing.T) {
	for _, size := range sizes {
		want := bytes.Repeat([]byte{'x'}, size)
		d := disk.New(1 << 20)
		d.Write("a", want, 1)
		read := func() []byte {
			b, _ := d.Read("a")
			return b
		}
		first, second := read(), read()
		overwrite(first)
		if !bytes.Equal(second, want) || !bytes.Equal(read(), want) {
			t.Errorf("P8.1, R6: %d bytes: what Read returned is not new memory", size)
		}
		d.Sync()
		overwrite(read())
		d.Crash(nil)
		if !bytes.Equal(read(), want) {
			t.Errorf("P8.1, R6: %d bytes: what Read returned is durable", size)
		}
		d.Rot("a", 0, 1)
		if !bytes.Equal(second, want) {
			t.Errorf("P8.1, R6: %d bytes: what Read returned rots", size)
		}
	}
}

func TestReturnedPaths(t *testing.T) {
	for n := range 20 {
		d := disk.New(0)
		var want []string
		for i := range n {
			want = append(want, "f"+string(rune('a'+i)))
			d.Write(want[i], nil, 0)
		}
		first, second := d.Paths(), d.Paths()
		for i := range first[:cap(first)] {
			first[:cap(first)][i] = "other"
		}
		if !slices.Equal(second, want) || !slices.Equal(d.Paths(), want) {
			t.Errorf("P8.1, R6: %d files: what Paths returned is not new memory", n)
		}
		d.Write("x", nil, 0)
		d.Remove("fa")
		if !slices.Equal(second, want) {
			t.Errorf("P8.1, R6: %d files: what Paths returned changes", n)
		}
	}
}

// TestKeptChanges: the list of what is kept is neither modified nor retained.
func TestKeptChanges(t *testing.T) {
	whole := []bool{false, true, false, true, true, false, true}
	was := slices.Clone(whole)
	d := with("a", "b")
	d.Write("a", []byte("new"), 7)
	d.Rename("b", "c")
	d.Remove("c")
	d.Crash(whole[1:3])
	if !slices.Equal(whole, was) {
		t.Errorf("P8.1, R6: the argument of Crash is modified: %v", whole)
	}
	d.Write("x", nil, 8)
	d.Remove("a")
	clear(whole)
	d.Sync()
	checkSeen(t, "after the argument of Crash is modified", d, "b=b{1 2 2} x={0 8 4} 1 0")
}

// TestPathsAreNotRetained: a disk has copies of the texts that it was given,
// which may be parts of greater ones.
func TestPathsAreNotRetained(t *testing.T) {
	text := strings.Repeat("a", 10) + strings.Repeat("b", 10) + strings.Repeat("c", 10)
	in := func(p string) bool {
		at := uintptr(unsafe.Pointer(unsafe.StringData(p)))
		from := uintptr(unsafe.Pointer(unsafe.StringData(text)))
		return at >= from && at < from+uintptr(len(text))
	}
	d := disk.New(10)
	d.Write(text[:10], nil, 0)
	d.Write(text[10:20], nil, 0)
	d.Rename(text[10:20], text[20:])
	d.Crash([]bool{true, true, true})
	if got := d.Paths(); len(got) != 2 || slices.ContainsFunc(got, in) {
		t.Errorf("P8.1: paths that were arguments are retained: %q", got)
	}
}

// TestEmptyArguments: nil and empty ones mean the same.
func TestEmptyArguments(t *testing.T) {
	a, b := disk.New(10), disk.New(10)
	for _, c := range []struct {
		d     *disk.Disk
		bytes []byte
		keep  []bool
	}{{a, nil, nil}, {b, make([]byte, 0, 9), make([]bool, 0, 9)}} {
		c.d.Write("a", c.bytes, 1)
		c.d.Sync()
		c.d.Write("b", c.bytes, 2)
		checkSeen(t, "no bytes", c.d, "a={0 1 1} b={0 2 2} 0 1")
		c.d.Crash(c.keep)
		checkSeen(t, "nothing kept", c.d, "a={0 1 1} 0 0")
		if b, e := c.d.Read("a"); len(b) != 0 || e != api.OK {
			t.Errorf("P8.1, R5: Read of no bytes: %v, error %d", b, e)
		}
	}
}
