package judge_test

import (
	"fmt"
	"slices"
	"testing"

	"darner/judge"
)

// mixed is a world with a path of each kind, at paths whose order differs from
// that of the kinds, and with files of other kinds of paths.
func mixed() *world {
	w := newWorld()
	for _, p := range []string{"z", "a", "a.b", "a-/x", "B", "~", "a0"} {
		w.keep(p, content(700+len(p)))
	}
	w.write("d/e/new", nil)
	for _, p := range []string{".par~a", ".tmp~a", "d/.par~new", "d/.tmp~new", ".par~archive.0", ".par~archive.1"} {
		w.write(p, content(300))
	}
	w.rot("a", 2)
	w.rot("~", 0, 1)
	b, _ := w.d.Read("a.b")
	w.write("a.b", b)
	w.write("B", content(700))
	must(w.d.Remove("z"))
	s, _ := w.d.Stat("a0")
	w.recordGone("a0", s)
	w.recordGone("+", s)
	return w
}

// mixedVerdicts are those of the sweep of the mixed world.
func mixedVerdicts() []judge.Verdict {
	return []judge.Verdict{
		{Path: "+", Kind: judge.Gone}, {Path: "B", Kind: judge.Edit}, {Path: "a", Kind: judge.Rot, Bad: []int{2}}, {Path: "a-/x", Kind: judge.Clean},
		{Path: "a.b", Kind: judge.Touched}, {Path: "a0", Kind: judge.Reborn}, {Path: "d/e/new", Kind: judge.New}, {Path: "z", Kind: judge.Missing}, {Path: "~", Kind: judge.Rot, Bad: []int{0, 1}},
	}
}

func TestSweep(t *testing.T) {
	w := mixed()
	w.checkSweep(t, "of all kinds", mixedVerdicts())
	if !slices.EqualFunc(w.sweep(), mixedVerdicts(), same) {
		t.Errorf("the model of a sweep yields %v", w.sweep())
	}
	for v := range judge.Sweep(w.a, w.d) {
		if got := judge.Judge(w.a, w.d, v.Path); !same(got, v) {
			t.Errorf("P13.1: Sweep yields %v, but Judge returns %v", v, got)
		}
	}
}

func TestSweepOfNothing(t *testing.T) {
	w := newWorld()
	w.checkSweep(t, "an empty archive and an empty disk", nil)
	for _, p := range []string{".tmp~x", ".par~x", "d/.tmp~x", "d/.par~x", ".par~archive.0", ".par~archive.1"} {
		w.write(p, content(300))
		w.checkSweep(t, "files without paths of kind 3", nil)
	}
	must(w.a.Save(w.d, 1))
	w.checkSweep(t, "an archive saved", nil)
	// What was there, and is not any more.
	w.keep("x", content(300))
	must(w.d.Remove("x"))
	w.drop("x")
	w.checkSweep(t, "a file removed, a record dropped", nil)
}

// TestSweepOfRecordsAndFiles: of neither, of files alone, of records alone, and of
// both at the same paths.
func TestSweepOfRecordsAndFiles(t *testing.T) {
	l := []string{"+", "-/b/c", "A", "a", "a.b/x", "a.c", "b/a", "b/a.", "b/b/b/b", "b~", "~"}
	for set := range 4 {
		w := newWorld()
		var want []judge.Verdict
		for i := range l {
			p := l[(i*7+3)%len(l)] // In another order.
			s := w.write(p, content(300))
			if set&2 == 2 {
				w.record(p, content(300), s)
			}
			if set&1 == 0 {
				must(w.d.Remove(p))
			}
		}
		for _, p := range l {
			if set > 0 {
				want = append(want, judge.Verdict{Path: p, Kind: []judge.Kind{judge.None, judge.New, judge.Missing, judge.Clean}[set]})
			}
		}
		w.checkSweep(t, fmt.Sprint("set ", set), want)
	}
}

// TestSweepOfAsManyAsThereCanBe: 128 records and 64 files.
func TestSweepOfAsManyAsThereCanBe(t *testing.T) {
	for _, apart := range []int{0, 64} { // How many of the files have no record.
		w := newWorld()
		for i := range 128 {
			if p := fmt.Sprintf("f%03d", i); i < 64 {
				w.record(p, content(i), w.write(p, content(i)))
			} else if i%2 == 0 {
				w.recordGone(p, w.known["f000"].stamp)
			} else {
				w.record(p, content(i), w.known["f000"].stamp)
			}
		}
		for i := range apart {
			must(w.d.Rename(fmt.Sprintf("f%03d", i), fmt.Sprintf("f%03d.%d", i, i)))
		}
		if want := w.sweep(); len(want) != 128+apart {
			t.Fatalf("the model of a sweep yields %d verdicts", len(want))
		}
		w.checkSweep(t, "128 records, 64 files", w.sweep())
	}
}

// TestStoppedSweep: after each number of verdicts. It then yields no more.
func TestStoppedSweep(t *testing.T) {
	w, want := mixed(), mixedVerdicts()
	sweep := judge.Sweep(w.a, w.d)
	for n := 1; n <= len(want); n++ {
		var got []judge.Verdict
		sweep(func(v judge.Verdict) bool {
			got = append(got, v)
			return len(got) < n
		})
		if !slices.EqualFunc(got, want[:n], same) {
			t.Errorf("R9: Sweep, stopped after %d verdicts, yields %v", n, got)
		}
	}
}

// TestSweepTraversedTwice: also while it is being traversed.
func TestSweepTraversedTwice(t *testing.T) {
	w, want := mixed(), mixedVerdicts()
	sweep := judge.Sweep(w.a, w.d)
	for range 2 {
		if got := slices.Collect(sweep); !slices.EqualFunc(got, want, same) {
			t.Errorf("R9: Sweep, traversed again, yields %v", got)
		}
	}
	i := 0
	for v := range sweep {
		if got := slices.Collect(sweep); !slices.EqualFunc(got, want, same) {
			t.Errorf("R9: Sweep, traversed within, yields %v", got)
		}
		if i < len(want) && !same(v, want[i]) {
			t.Errorf("R9: Sweep, traversed with others within, yields %v", v)
		}
		i++
	}
	if i != len(want) {
		t.Errorf("R9: Sweep, traversed with others within, yields %d verdicts", i)
	}
}

// TestSweepOfLaterState: an iterator sweeps what there is when it is traversed.
func TestSweepOfLaterState(t *testing.T) {
	w := newWorld()
	sweep := judge.Sweep(w.a, w.d)
	for _, do := range []func(){
		func() { w.keep("b", content(300)) }, func() { w.write("a/x", nil) }, func() { w.rot("b", 1) }, func() { must(w.d.Rename("b", "c")) },
		func() { w.recordGone("b", w.known["b"].stamp) }, func() { w.write("b", nil) }, func() { w.drop("b") }, func() { must(w.d.Remove("a/x")) },
	} {
		do()
		if got := slices.Collect(sweep); !slices.EqualFunc(got, w.sweep(), same) {
			t.Errorf("R8: Sweep of what has changed yields %v instead of %v", got, w.sweep())
		}
	}
}

// TestSweepWhoseConsumerChanges: each verdict is that of its time, and it ends.
func TestSweepWhoseConsumerChanges(t *testing.T) {
	w := newWorld()
	for _, p := range []string{"a", "b", "c", "d", "e", "f"} {
		w.keep(p, content(600))
	}
	w.write("g", nil)
	var got []judge.Verdict
	for v := range judge.Sweep(w.a, w.d) {
		got = append(got, v)
		switch v.Path {
		case "a":
			w.rot("b", 1)
			must(w.d.Remove("c"))
			w.write("a0", nil)
		case "b":
			must(w.d.Remove("d"))
			w.drop("d")
			must(w.d.Remove("g"))
			w.write("f", nil)
		}
		w.write(v.Path+v.Path, nil)
		w.d.Remove(v.Path) // It may be missing.
	}
	want := []judge.Verdict{{Path: "a", Kind: judge.Clean}, {Path: "b", Kind: judge.Rot, Bad: []int{1}}, {Path: "c", Kind: judge.Missing}, {Path: "e", Kind: judge.Clean}, {Path: "f", Kind: judge.Edit}}
	if !slices.EqualFunc(got, want, same) {
		t.Errorf("P6, R9: Sweep, whose consumer changes what is swept, yields %v", got)
	}
}
