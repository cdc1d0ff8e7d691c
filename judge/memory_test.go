package judge_test

import (
	"slices"
	"testing"

	"darner/judge"
)

// overwrite changes all numbers, also those of the spare capacity, which are there
// for whoever appends.
func overwrite(l []int) {
	all := l[:cap(l)]
	for i := range all {
		all[i] += 1000
	}
}

// TestNothingIsModified: neither the archive nor the disk, nor what a crash leaves
// of it.
func TestNothingIsModified(t *testing.T) {
	for _, do := range []func(w *world){
		func(w *world) {
			for _, v := range mixedVerdicts() {
				judge.Judge(w.a, w.d, v.Path)
			}
			for _, p := range []string{"", "nothing", "a/b", ".par~a", ".par~archive.0"} {
				judge.Judge(w.a, w.d, p)
			}
		},
		func(w *world) {
			for range judge.Sweep(w.a, w.d) {
			}
		},
		func(w *world) {
			for range judge.Sweep(w.a, w.d) {
				break
			}
		},
		func(w *world) { judge.Health(judge.Count(judge.Sweep(w.a, w.d))) },
	} {
		w, other := mixed(), mixed()
		do(w)
		if w.seen() != other.seen() {
			t.Errorf("R6, P13.1: an argument is modified: %s", w.seen())
		}
		keep := []bool{true, true, false, true, true, true, false, true}
		w.d.Crash(keep)
		other.d.Crash(keep)
		if w.seen() != other.seen() {
			t.Errorf("R6, P13.1: what is pending on the disk is modified: %s", w.seen())
		}
		w.write("after", nil)
		other.write("after", nil)
		if w.seen() != other.seen() {
			t.Errorf("R6, P13.1: the counter of the disk is modified: %s", w.seen())
		}
	}
}

func TestVerdictsAreNewMemory(t *testing.T) {
	w := mixed()
	for _, want := range mixedVerdicts() {
		first, second := judge.Judge(w.a, w.d, want.Path), judge.Judge(w.a, w.d, want.Path)
		overwrite(first.Bad)
		if !same(second, want) {
			t.Errorf("R6, P13.1: results of Judge of %s share memory", want.Path)
		}
		w.check(t, "another verdict modified", want.Path, want.Kind, want.Bad...)
	}
	if w.seen() != mixed().seen() {
		t.Error("R6, P13.1: a verdict shares memory with the arguments of Judge")
	}
}

// TestVerdictsOfSweepsAreNewMemory: those of one sweep, and of another one.
func TestVerdictsOfSweepsAreNewMemory(t *testing.T) {
	w, want := mixed(), mixedVerdicts()
	sweep := judge.Sweep(w.a, w.d)
	kept := slices.Collect(sweep)
	for i := range want {
		all := slices.Collect(sweep)
		if len(all) != len(want) {
			t.Fatalf("P13.1: Sweep yields %d verdicts", len(all))
		}
		overwrite(all[i].Bad)
		for k := range want {
			if k != i && !same(all[k], want[k]) {
				t.Errorf("R6, P13.1: verdicts of one sweep share memory: those of %s and %s", want[i].Path, want[k].Path)
			}
		}
	}
	for v := range sweep {
		overwrite(v.Bad)
	}
	if !slices.EqualFunc(kept, want, same) {
		t.Errorf("R6, P13.1: verdicts of several sweeps share memory: %v", kept)
	}
	w.checkSweep(t, "other verdicts modified", want)
	if w.seen() != mixed().seen() {
		t.Error("R6, P13.1: a verdict shares memory with the arguments of Sweep")
	}
}

// TestVerdictsStay: whatever is done later to what was judged.
func TestVerdictsStay(t *testing.T) {
	w, want := mixed(), mixedVerdicts()
	kept := slices.Collect(judge.Sweep(w.a, w.d))
	for _, v := range want {
		w.d.Remove(v.Path)
		w.a.Drop(v.Path)
	}
	if !slices.EqualFunc(kept, want, same) {
		t.Errorf("R6, P13.1: verdicts change later: %v", kept)
	}
}

// TestCountModifiesNothing: of the verdicts that it is given, and of what Health
// is given.
func TestCountModifiesNothing(t *testing.T) {
	l := mixedVerdicts()
	n := judge.Count(slices.Values(l))
	if !slices.EqualFunc(l, mixedVerdicts(), same) {
		t.Errorf("R6, P13.1: Count modifies verdicts: %v", l)
	}
	judge.Health(n)
	if n != [9]int{0, 1, 1, 1, 2, 1, 1, 1, 1} {
		t.Errorf("R6, P13.1: Count returns %v, after Health", n)
	}
}
