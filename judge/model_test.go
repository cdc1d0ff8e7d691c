package judge_test

import (
	"bytes"
	"fmt"
	"maps"
	"slices"
	"strings"
	"testing"

	"darner/api"
	"darner/archive"
	"darner/disk"
	"darner/judge"
	"darner/record"
	"darner/vector"
)

const maxFile = 16384

// sizes are numbers of bytes at the ends of blocks, and of files that are known.
var sizes = []int{0, 1, 2, 255, 256, 257, 511, 512, 513, 600, 1280, maxFile - 1, maxFile}

// kinds are all kinds, by their numbers in the chapter.
var kinds = []judge.Kind{
	judge.None, judge.New, judge.Missing, judge.Clean, judge.Rot, judge.Edit, judge.Touched, judge.Gone, judge.Reborn,
}

// kindNames are their names.
var kindNames = []string{"none", "new", "missing", "clean", "rot", "edit", "touched", "gone", "reborn"}

// content returns bytes, others for each number.
func content(n int) []byte {
	b := make([]byte, n)
	x := uint64(n)
	for i := range b {
		x = x*6364136223846793005 + 1442695040888963407
		b[i] = byte(x >> 56)
	}
	return b
}

// spoiled returns bytes that differ in some blocks.
func spoiled(b []byte, blocks ...int) []byte {
	b = bytes.Clone(b)
	for _, i := range blocks {
		b[256*i] ^= 1
	}
	return b
}

// A fact is what a test knows of a path: of its file, or of its record.
type fact struct {
	b     []byte
	stamp disk.Stamp
	dead  bool // Of a record alone.
}

// A world has an archive and a disk, and what was recorded in the archive: the
// bytes, not their digests.
type world struct {
	a     *archive.Archive
	d     *disk.Disk
	known map[string]fact
}

func newWorld() *world {
	return &world{a: archive.New(), d: disk.New(1 << 20), known: map[string]fact{}}
}

// must panics where there is an error, which the tests do not expect.
func must(e api.Errno) {
	if e != api.OK {
		panic(fmt.Sprint("error ", e))
	}
}

// write writes a file at time 70, and returns its stamp.
func (w *world) write(p string, b []byte) disk.Stamp {
	must(w.d.Write(p, b, 70))
	s, e := w.d.Stat(p)
	must(e)
	return s
}

// record records bytes; their number replaces the Size of the stamp.
func (w *world) record(p string, b []byte, s disk.Stamp) {
	r, e := record.Of(p, b, s, vector.Vector{0: 1, 3: 300})
	must(e)
	must(w.a.Set(r))
	s.Size = len(b)
	w.known[p] = fact{b: bytes.Clone(b), stamp: s}
}

// recordGone records that a file is deleted.
func (w *world) recordGone(p string, s disk.Stamp) {
	r, e := record.Gone(p, s, vector.Vector{15: 1 << 40})
	must(e)
	must(w.a.Set(r))
	w.known[p] = fact{dead: true}
}

// drop drops a record.
func (w *world) drop(p string) {
	must(w.a.Drop(p))
	delete(w.known, p)
}

// keep writes a file and records it.
func (w *world) keep(p string, b []byte) {
	w.record(p, b, w.write(p, b))
}

// rot flips a bit in some blocks of a file.
func (w *world) rot(p string, blocks ...int) {
	for _, i := range blocks {
		must(w.d.Rot(p, 256*i, 1))
	}
}

// file returns what is on the disk at a path, and whether there is a file.
func (w *world) file(p string) (fact, bool) {
	b, e := w.d.Read(p)
	s, _ := w.d.Stat(p)
	return fact{b: b, stamp: s}, e == api.OK
}

// verdict returns what the chapter's table says of a path: by bytes, not by
// digests.
func (w *world) verdict(p string) judge.Verdict {
	v := judge.Verdict{Path: p}
	r, recorded := w.known[p]
	f, present := w.file(p)
	same, fits := r.stamp == f.stamp, bytes.Equal(r.b, f.b)
	// A key has what the table's columns have.
	type key struct{ recorded, dead, present, same, fits bool }
	v.Kind = map[key]judge.Kind{
		{}:                                0,
		{present: true}:                   1,
		{recorded: true}:                  2,
		{true, false, true, true, true}:   3,
		{true, false, true, true, false}:  4,
		{true, false, true, false, false}: 5,
		{true, false, true, false, true}:  6,
		{recorded: true, dead: true}:      7,
		{true, true, true, false, false}:  8,
	}[key{recorded, r.dead, present, recorded && !r.dead && present && same, recorded && !r.dead && present && fits}]
	if v.Kind == 4 {
		v.Bad = differing(r.b, f.b)
	}
	return v
}

// differing returns the numbers of the blocks in which bytes of one length differ.
func differing(a, b []byte) []int {
	var l []int
	for i := 0; 256*i < len(a); i++ {
		to := min(256*i+256, len(a))
		if !bytes.Equal(a[256*i:to], b[256*i:to]) {
			l = append(l, i)
		}
	}
	return l
}

// sweep returns what the chapter says of a sweep.
func (w *world) sweep() []judge.Verdict {
	paths := map[string]bool{}
	for p := range w.known {
		paths[p] = true
	}
	for _, p := range w.d.Paths() {
		name := p[strings.LastIndex(p, "/")+1:]
		if !strings.HasPrefix(name, ".tmp~") && !strings.HasPrefix(name, ".par~") {
			paths[p] = true
		}
	}
	var l []judge.Verdict
	for _, p := range slices.Sorted(maps.Keys(paths)) {
		l = append(l, w.verdict(p))
	}
	return l
}

// same reports whether two verdicts are equal.
func same(v, u judge.Verdict) bool {
	return v.Path == u.Path && v.Kind == u.Kind && slices.Equal(v.Bad, u.Bad)
}

// check checks Judge by what is expected.
func (w *world) check(t *testing.T, what, p string, kind judge.Kind, bad ...int) {
	t.Helper()
	want := judge.Verdict{Path: p, Kind: kind, Bad: bad}
	if got := judge.Judge(w.a, w.d, p); !same(got, want) {
		t.Errorf("P13.1: Judge of %.120q (%s): %.200v instead of %.200v", p, what, got, want)
	}
}

// checkModel checks Judge by the model.
func (w *world) checkModel(t *testing.T, what, p string) {
	t.Helper()
	want := w.verdict(p)
	w.check(t, what, p, want.Kind, want.Bad...)
}

// checkSweep checks a sweep by what is expected.
func (w *world) checkSweep(t *testing.T, what string, want []judge.Verdict) {
	t.Helper()
	if got := slices.Collect(judge.Sweep(w.a, w.d)); !slices.EqualFunc(got, want, same) {
		t.Errorf("P13.1: Sweep (%s): %v instead of %v", what, got, want)
	}
}

// seen is all that there is to see of the archive and the disk.
func (w *world) seen() string {
	var out strings.Builder
	fmt.Fprintf(&out, "%x %d %d, %d %d %d", w.a.Bytes(), w.a.Len(), w.a.Generation(), w.d.Used(), w.d.Room(), w.d.Waiting())
	for _, p := range w.d.Paths() {
		f, _ := w.file(p)
		fmt.Fprintf(&out, "\n%s %v %x", p, f.stamp, f.b)
	}
	return out.String()
}
