package judge_test

import (
	"fmt"
	"math/rand"
	"slices"
	"testing"

	"darner/api"
	"darner/judge"
)

// A step changes the files of a world, and returns what it did.
type step func(w *world) string

// fileSteps are ways to write, rename and remove the files of a few paths, all at
// the same time and with the same number of bytes, to sync the disk, and to crash
// it.
func fileSteps() []step {
	l := []step{
		func(w *world) string { w.d.Sync(); return "Sync" },
		func(w *world) string { w.d.Crash(nil); return "Crash" },
		func(w *world) string { w.d.Crash([]bool{true, false, true, true}); return "Crash, keeping some" },
		func(w *world) string {
			w.d.Crash([]bool{false, true, true, false, true})
			return "Crash, keeping others"
		},
	}
	for _, p := range []string{"a", "b"} {
		l = append(l, func(w *world) string { return fmt.Sprint("Remove of ", p, ": ", w.d.Remove(p)) })
		for _, q := range []string{"a", "b", "c"} {
			l = append(l, func(w *world) string { return fmt.Sprint("Rename of ", p, " to ", q, ": ", w.d.Rename(p, q)) })
		}
		for _, x := range []byte{0, 1} {
			b := content(300)
			b[299] ^= x
			l = append(l, func(w *world) string { return fmt.Sprint("Write of ", p, ", mask ", x, ": ", w.d.Write(p, b, 70)) })
		}
	}
	return l
}

// TestChangedFilesAreNoRot: after all lists of up to four steps, of files that are
// recorded with the same and with other bytes.
func TestChangedFilesAreNoRot(t *testing.T) {
	l := fileSteps()
	lists := len(l) * len(l) * len(l)
	if !testing.Short() {
		lists *= len(l)
	}
	for i := range lists {
		w := newWorld()
		w.keep("a", content(300))
		w.keep("b", spoiled(content(300), 1))
		w.d.Sync()
		done := ""
		for ; i > 0; i /= len(l) {
			done += l[i%len(l)](w) + ", "
			for v := range judge.Sweep(w.a, w.d) {
				if v.Kind == judge.Rot {
					t.Fatalf("P13.2: after %s%s has rotted", done, v.Path)
				}
			}
		}
	}
}

// TestRottenFilesAreRot: in whichever of the disk's states their bytes are.
func TestRottenFilesAreRot(t *testing.T) {
	for bits := range 8 {
		w := newWorld()
		w.keep("a", content(600))
		w.check(t, "kept", "a", judge.Clean)
		if bits&1 == 1 {
			w.d.Sync()
		}
		w.rot("a", 2)
		w.check(t, "rotted", "a", judge.Rot, 2)
		if bits&2 == 2 {
			w.d.Sync()
		}
		w.d.Crash([]bool{true})
		w.check(t, "rotted, after a crash", "a", judge.Rot, 2)
		must(w.d.Rename("a", "b"))
		w.check(t, "rotted and renamed", "a", judge.Missing)
		w.check(t, "rotted and renamed", "b", judge.New)
		must(w.d.Rename("b", "a"))
		w.check(t, "rotted, renamed and renamed back", "a", judge.Rot, 2)
		w.write("a", content(600))
		w.check(t, "rotted and written again", "a", judge.Touched)
		if bits&4 == 4 {
			// The crash undoes both renames and the write.
			w.d.Crash(nil)
			w.check(t, "rotted and written again, after a crash", "a", judge.Rot, 2)
		}
	}
}

// randomPaths are all kinds of paths; some of them clash.
var randomPaths = []string{"a", "a/b", "a/b/c", "a.b", "b", "c", "d/e", ".tmp~a", "d/.par~e", "~"}

// randomContents are few, so that files often have the same bytes.
func randomContents() [][]byte {
	return [][]byte{nil, content(1), content(256), content(600), spoiled(content(600), 1), spoiled(content(600), 0, 2), content(601)}
}

// changeRandomly writes, renames, removes or syncs, or crashes the disk.
func changeRandomly(r *rand.Rand, w *world) {
	p, q := randomPaths[r.Intn(len(randomPaths))], randomPaths[r.Intn(len(randomPaths))]
	switch l := randomContents(); r.Intn(12) {
	case 0, 1, 2, 3:
		w.d.Write(p, l[r.Intn(len(l))], 70+r.Intn(2))
	case 4, 5, 6, 7:
		w.d.Rename(p, q)
	case 8, 9:
		w.d.Remove(p)
	case 10:
		w.d.Sync()
	case 11:
		keep := make([]bool, r.Intn(w.d.Waiting()+2))
		for i := range keep {
			keep[i] = r.Intn(4) > 0
		}
		w.d.Crash(keep)
	}
}

// recordRandomly records a file as it is or as deleted, or drops its record.
func recordRandomly(r *rand.Rand, w *world) {
	p := randomPaths[r.Intn(7)] // A few that may have a record.
	f, there := w.file(p)
	switch r.Intn(8) {
	case 0:
		w.recordGone(p, f.stamp)
	case 1:
		if w.a.Drop(p) == api.OK {
			delete(w.known, p)
		}
	default:
		if there {
			w.record(p, f.b, f.stamp)
		}
	}
}

// rotRandomly flips bits of a file.
func rotRandomly(r *rand.Rand, w *world) {
	p := randomPaths[r.Intn(len(randomPaths))]
	if f, there := w.file(p); there && len(f.b) > 0 {
		must(w.d.Rot(p, r.Intn(len(f.b)), 1<<r.Intn(8)))
	}
}

// kindsOf returns the kinds of all random paths.
func kindsOf(w *world) []judge.Kind {
	var l []judge.Kind
	for _, p := range randomPaths {
		l = append(l, judge.Judge(w.a, w.d, p).Kind)
	}
	return l
}

// TestRandomChanges: with and without rot. Each state is judged as the model does.
func TestRandomChanges(t *testing.T) {
	seen := map[judge.Kind]int{}
	for seed := range 400 {
		r, w := rand.New(rand.NewSource(int64(seed))), newWorld()
		for range 60 {
			was := kindsOf(w)
			changed := r.Intn(3) > 0
			if changed {
				changeRandomly(r, w)
			} else if seed%2 == 0 && r.Intn(2) == 0 {
				rotRandomly(r, w)
			} else {
				recordRandomly(r, w)
			}
			for i, k := range kindsOf(w) {
				seen[k]++
				if k == judge.Rot && (changed && was[i] == judge.Clean || seed%2 == 1) {
					t.Fatalf("P13.2: seed %d: %s has rotted, but no bits of its bytes were flipped", seed, randomPaths[i])
				}
				w.checkModel(t, fmt.Sprint("seed ", seed), randomPaths[i])
			}
			w.checkSweep(t, fmt.Sprint("seed ", seed), w.sweep())
			if t.Failed() {
				return
			}
		}
	}
	for _, k := range kinds {
		if seen[k] < 100 {
			t.Errorf("only %d of kind %d were judged", seen[k], k)
		}
	}
}

// TestOneFileAtAnotherPath: a file that is renamed to a recorded path keeps its
// stamp, by which it is told from the one that was there, also where it has the
// same number of bytes and the same time.
func TestOneFileAtAnotherPath(t *testing.T) {
	for _, n := range slices.DeleteFunc(slices.Clone(sizes), func(n int) bool { return n == 0 }) {
		w := newWorld()
		w.keep("a", content(n))
		w.keep("b", spoiled(content(n), 0))
		w.keep("c", content(n))
		must(w.d.Rename("b", "a"))
		w.check(t, "replaced by a file with other bytes", "a", judge.Edit)
		must(w.d.Rename("c", "a"))
		w.check(t, "replaced by a file with the same bytes", "a", judge.Touched)
		w.check(t, "renamed", "b", judge.Missing)
		w.d.Crash(nil)
		w.check(t, "lost in a crash", "a", judge.Missing)
	}
}
