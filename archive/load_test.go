package archive_test

import (
	"bytes"
	"fmt"
	"testing"

	"darner/api"
	"darner/archive"
	"darner/disk"
	"darner/record"
)

// storing returns a disk with those bytes as the copies, synced; nil stands for a
// copy that is missing.
func storing(a, b []byte) *disk.Disk {
	d := disk.New(maxRoom)
	write := func(p string, b []byte) {
		if e := d.Write(p, b, 2); e != api.OK {
			panic(fmt.Sprint("Write of ", p, ": ", e))
		}
	}
	write("a", content(20))
	if a != nil {
		write(first, a)
	}
	if b != nil {
		write(second, b)
	}
	d.Sync()
	return d
}

// checkLoad checks what Load returns, and that it leaves the disk unchanged.
func checkLoad(t *testing.T, what string, d *disk.Disk, want string, wantNumber int, wantError api.Errno) {
	t.Helper()
	was := shown(d)
	a, n, e := archive.Load(d)
	if seen(a) != want || n != wantNumber || e != wantError {
		t.Errorf("P11.1: Load %s: %.300s, %d copies, error %d\ninstead of %.300s, %d copies, error %d", what, seen(a), n, e, want, wantNumber, wantError)
	}
	if shown(d) != was {
		t.Errorf("P11.1: Load %s: the disk is changed", what)
	}
}

// noEncodings are bytes that are the encoding of no archive, though most are
// nearly one, of a great generation.
func noEncodings() map[string][]byte {
	b := encoding(400, several()...)
	wrong := bytes.Clone(b)
	wrong[0] ^= 1
	last := bytes.Clone(b)
	last[len(last)-1] ^= 128
	many := [][]byte{}
	for range 129 {
		many = append(many, nil)
	}
	return map[string][]byte{
		"empty":                      {},
		"a byte":                     {0},
		"zeros":                      make([]byte, 100),
		"other bytes":                content(300),
		"truncated":                  b[:len(b)-1],
		"half of it":                 b[:len(b)/2],
		"a byte more":                append(bytes.Clone(b), 0),
		"a wrong generation":         wrong,
		"a wrong last digest":        last,
		"no digest":                  b[:len(b)-32],
		"a record that is none":      sealed(body(400, dead("a").Bytes(), []byte("b"))),
		"a record that is not valid": sealed(body(400, sealed([]byte("\x01c\x00\x01\x02\x00\x01")))),
		"paths that decrease":        encoding(400, dead("b"), dead("a")),
		"a path twice":               encoding(400, dead("a"), dead("a")),
		"many records":               sealed(body(400, many...)),
		"a long record":              sealed(body(400, make([]byte, 4097))),
		"a record":                   dead("a").Bytes(),
	}
}

func TestLoadWithoutCopies(t *testing.T) {
	checkLoad(t, "of an empty disk", disk.New(0), "none", 0, api.ErrNone)
	checkLoad(t, "without copies", storing(nil, nil), "none", 0, api.ErrNone)
	d := storing(nil, nil)
	d.Write(first+"/x", encoding(3), 1)
	d.Write(".par~archive.2", encoding(3), 1)
	d.Write("d/"+second, encoding(3), 1)
	d.Write(".par~archive", encoding(3), 1)
	checkLoad(t, "beside other paths", d, "none", 0, api.ErrNone)
}

func TestLoadOfEqualCopies(t *testing.T) {
	for _, l := range append(examples(), numbered(mostRecords)) {
		for _, generation := range []int{0, 1, 127, 128, 300, maxCount} {
			b := encoding(generation, l...)
			want := state(generation, l...)
			what := fmt.Sprint("of ", len(l), " records")
			checkLoad(t, what+", both copies", storing(b, b), want, 2, api.OK)
			checkLoad(t, what+", the first copy alone", storing(b, nil), want, 1, api.OK)
			checkLoad(t, what+", the second copy alone", storing(nil, b), want, 1, api.OK)
		}
	}
}

// TestLoadOfUnlikeCopies: the greater generation decides, however many records
// there are, then the order of the copies.
func TestLoadOfUnlikeCopies(t *testing.T) {
	lists := [][]record.Record{nil, {dead("a")}, {live("a", 300)}, several()}
	for i, l := range lists {
		for k, other := range lists {
			for _, g := range [][2]int{{1, 0}, {2, 1}, {128, 127}, {256, 255}, {300, 2}, {maxCount, maxCount - 1}} {
				great, small := encoding(g[0], l...), encoding(g[1], other...)
				want := state(g[0], l...)
				checkLoad(t, "of two generations, the first one greater", storing(great, small), want, 1, api.OK)
				checkLoad(t, "of two generations, the second one greater", storing(small, great), want, 1, api.OK)
			}
			if i != k {
				checkLoad(t, "of one generation, but other records", storing(encoding(7, l...), encoding(7, other...)), state(7, l...), 1, api.OK)
			}
		}
	}
}

// TestLoadOfDamagedCopies: what is not the encoding of an archive is as good as
// missing, but where it is all there is.
func TestLoadOfDamagedCopies(t *testing.T) {
	b := encoding(3, several()...)
	want := state(3, several()...)
	all := noEncodings()
	for what, x := range all {
		checkLoad(t, "beside a first copy: "+what, storing(x, b), want, 1, api.OK)
		checkLoad(t, "beside a second copy: "+what, storing(b, x), want, 1, api.OK)
		checkLoad(t, "of a first copy: "+what, storing(x, nil), "none", 0, api.ErrDigest)
		checkLoad(t, "of a second copy: "+what, storing(nil, x), "none", 0, api.ErrDigest)
		for other, y := range all {
			checkLoad(t, "of two copies: "+what+", and "+other, storing(x, y), "none", 0, api.ErrDigest)
		}
	}
}

// TestLoadOfRot: in each byte of either copy.
func TestLoadOfRot(t *testing.T) {
	l := []record.Record{dead("a"), live("b", 300)}
	b := encoding(3, l...)
	d := storing(b, b)
	checkRot := func(what, p string, want string, wantNumber int, wantError api.Errno) {
		t.Helper()
		for i := range b {
			d.Rot(p, i, byte(1<<(i%8)))
			checkLoad(t, what, d, want, wantNumber, wantError)
			d.Rot(p, i, byte(1<<(i%8)))
		}
	}
	checkRot("with the first copy rotted", first, state(3, l...), 1, api.OK)
	checkRot("with the second copy rotted", second, state(3, l...), 1, api.OK)
	d.Rot(first, 5, 16)
	checkRot("with both copies rotted", second, "none", 0, api.ErrDigest)
	checkLoad(t, "with the first copy rotted", d, state(3, l...), 1, api.OK)
	d.Rot(first, 5, 16)
	checkLoad(t, "with all rot undone", d, state(3, l...), 2, api.OK)
}

// TestLoadOfSaves: what was saved is loaded, and can be saved again.
func TestLoadOfSaves(t *testing.T) {
	for _, l := range append(examples(), numbered(mostRecords), exactly(maxStored)) {
		a, d := with(l...), holding(maxRoom, file{"a", 5})
		for i := 1; i <= 3; i++ {
			checkSaved(t, "of what was loaded", a, d)
			checkLoad(t, "of what was saved", d, state(i, l...), 2, api.OK)
			a, _, _ = archive.Load(d)
		}
		d.Remove(first)
		checkLoad(t, "with the first copy removed", d, state(3, l...), 1, api.OK)
		d.Rename(second, first)
		checkLoad(t, "with the second copy renamed", d, state(3, l...), 1, api.OK)
		d.Rename(first, "b")
		checkLoad(t, "with both copies gone", d, "none", 0, api.ErrNone)
	}
}

// TestLoadOfPendingCopies: it is the visible state that counts.
func TestLoadOfPendingCopies(t *testing.T) {
	d := storing(encoding(3, dead("a")), encoding(3, dead("a")))
	d.Write(second, encoding(4, dead("b")), 1)
	checkLoad(t, "of a pending second copy", d, state(4, dead("b")), 1, api.OK)
	d.Remove(first)
	checkLoad(t, "with a pending removal", d, state(4, dead("b")), 1, api.OK)
	d.Crash(nil)
	checkLoad(t, "behind a crash", d, state(3, dead("a")), 2, api.OK)
}

// TestLoadIsIndependent: of the disk, and of later Saves.
func TestLoadIsIndependent(t *testing.T) {
	a, d := with(several()...), disk.New(maxRoom)
	checkError(t, "Save", a.Save(d, 1), api.OK)
	b, _, _ := archive.Load(d)
	a.Drop("a")
	checkError(t, "Save", a.Save(d, 2), api.OK)
	checkSeen(t, "a loaded archive, with another one saved", b, state(1, several()...))
	b.Set(live("new", 1))
	c, _, _ := archive.Load(d)
	checkSeen(t, "Load, with an archive changed that was loaded", c, seen(a))
}
