package judge_test

import (
	"iter"
	"math"
	"math/rand"
	"slices"
	"testing"

	"darner/gauge"
	"darner/judge"
)

// notKinds are numbers of no kind.
var notKinds = []judge.Kind{-1, 9, 10, -2, -9, 255, 256, 1 << 32, 1<<32 + 3, -1 << 32, math.MinInt + 1, math.MinInt, math.MaxInt - 1, math.MaxInt}

func TestText(t *testing.T) {
	for i, k := range kinds {
		if got := k.Text(); got != kindNames[i] {
			t.Errorf("P13.1: Text of kind %d: %q instead of %q", k, got, kindNames[i])
		}
	}
	for _, k := range notKinds {
		if got := k.Text(); got != "?" {
			t.Errorf("P13.1: Text of kind %d: %q instead of ?", k, got)
		}
	}
}

func TestServes(t *testing.T) {
	for _, k := range append(notKinds, kinds...) {
		if got, want := k.Serves(), k == 3 || k == 6; got != want {
			t.Errorf("P13.1: Serves of kind %d: %t", k, got)
		}
	}
}

// verdicts yields verdicts of kinds.
func verdicts(l ...judge.Kind) iter.Seq[judge.Verdict] {
	return func(yield func(v judge.Verdict) bool) {
		for _, k := range l {
			if !yield(judge.Verdict{Path: "x", Kind: k}) {
				return
			}
		}
	}
}

func checkCount(t *testing.T, what string, l iter.Seq[judge.Verdict], want [9]int) {
	t.Helper()
	if got := judge.Count(l); got != want {
		t.Errorf("P13.1: Count (%s): %v instead of %v", what, got, want)
	}
}

func TestCount(t *testing.T) {
	checkCount(t, "no verdicts", verdicts(), [9]int{})
	checkCount(t, "nil", nil, [9]int{})
	checkCount(t, "each kind", verdicts(kinds...), [9]int{1, 1, 1, 1, 1, 1, 1, 1, 1})
	for i, k := range kinds {
		for _, n := range []int{1, 2, 300} {
			want := [9]int{}
			want[i] = n
			checkCount(t, "one kind", verdicts(slices.Repeat([]judge.Kind{k}, n)...), want)
		}
	}
	checkCount(t, "several kinds", verdicts(8, 3, 0, 3, 8, 5, 3, 0, 7), [9]int{2, 0, 0, 3, 0, 1, 0, 1, 2})
}

// TestCountOfOtherNumbers: of what is no kind there is none to count.
func TestCountOfOtherNumbers(t *testing.T) {
	for _, k := range notKinds {
		checkCount(t, "what is no kind", verdicts(k), [9]int{})
		checkCount(t, "what is no kind among others", verdicts(3, k, 8, k, 0), [9]int{1, 0, 0, 1, 0, 0, 0, 0, 1})
	}
	checkCount(t, "what is no kind", verdicts(notKinds...), [9]int{})
}

// TestCountOfSweeps: it is the number that Sweep yields.
func TestCountOfSweeps(t *testing.T) {
	w := mixed()
	checkCount(t, "of all kinds", judge.Sweep(w.a, w.d), [9]int{0, 1, 1, 1, 2, 1, 1, 1, 1})
	w = newWorld()
	checkCount(t, "nothing", judge.Sweep(w.a, w.d), [9]int{})
	for i, p := range []string{"d", "b", "a", "c"} {
		w.keep(p, content(300))
		checkCount(t, "clean files", judge.Sweep(w.a, w.d), [9]int{3: i + 1})
	}
	w.rot("b", 0)
	checkCount(t, "a rotted file", judge.Sweep(w.a, w.d), [9]int{3: 3, 4: 1})
}

// TestCountTraversesOnce: an iterator may be one that cannot be traversed again.
func TestCountTraversesOnce(t *testing.T) {
	times := 0
	got := judge.Count(func(yield func(v judge.Verdict) bool) {
		times++
		for range 5 {
			if !yield(judge.Verdict{Kind: judge.Rot}) {
				t.Error("P13.1: Count stops before the end")
				return
			}
		}
	})
	if times != 1 || got != [9]int{4: 5} {
		t.Errorf("P13.1: Count traverses %d times, and returns %v", times, got)
	}
}

func checkHealth(t *testing.T, n [9]int, want float64) {
	t.Helper()
	got := judge.Health(n)
	if gauge.Less(got, want) || gauge.Less(want, got) {
		t.Errorf("P13.1: Health of %v: %v instead of %v", n, got, want)
	}
}

func TestHealth(t *testing.T) {
	checkHealth(t, [9]int{}, math.NaN())
	checkHealth(t, [9]int{3: 1}, 1)
	checkHealth(t, [9]int{3: 77}, 1)
	checkHealth(t, [9]int{6: 1}, 1)
	checkHealth(t, [9]int{3: 2, 6: 5}, 1)
	checkHealth(t, [9]int{4: 1}, 0)
	checkHealth(t, [9]int{4: 50}, 0)
	checkHealth(t, [9]int{0: 5}, math.NaN())
	checkHealth(t, [9]int{7: 5}, math.NaN())
	checkHealth(t, [9]int{0: 5, 7: 2}, math.NaN())
	checkHealth(t, [9]int{0: 5, 3: 1, 7: 2}, 1)
	checkHealth(t, [9]int{0: 5, 4: 1, 7: 2}, 0)
	checkHealth(t, [9]int{3: 1, 4: 2}, 1.0/3)
	checkHealth(t, [9]int{1, 1, 1, 1, 1, 1, 1, 1, 1}, 2.0/7)
	checkHealth(t, [9]int{1, 2, 4, 8, 16, 32, 64, 128, 256}, 72.0/382)
	if got := judge.Health([9]int{4: 1}); math.Signbit(got) {
		t.Errorf("P13.1: Health of only Rot: %v, which is negative", got)
	}
}

// TestHealthOfEachKind: with one Clean path and some of each other kind.
func TestHealthOfEachKind(t *testing.T) {
	for i, want := range []float64{1, 0.25, 0.25, 1, 0.25, 0.25, 1, 1, 0.25} {
		n := [9]int{3: 1}
		n[i] += 3
		checkHealth(t, n, want)
	}
}

// TestHealthIsARate: that of chapter 5, of any numbers.
func TestHealthIsARate(t *testing.T) {
	r := rand.New(rand.NewSource(13))
	for range 20000 {
		var n [9]int
		for i := range n {
			n[i] = r.Intn(1 << r.Intn(27))
			if r.Intn(3) == 0 {
				n[i] = 0
			}
		}
		checkHealth(t, n, gauge.Rate(n[3]+n[6], n[1]+n[2]+n[3]+n[4]+n[5]+n[6]+n[8]))
	}
}

// TestHealthOfAnyNumbers: it returns one also of those that Count does not.
func TestHealthOfAnyNumbers(t *testing.T) {
	for _, x := range []int{-1, math.MinInt, math.MaxInt} {
		for i := range 9 {
			n := [9]int{3: 1, 4: 1}
			n[i] = x
			judge.Health(n)
		}
		judge.Health([9]int{x, x, x, x, x, x, x, x, x})
	}
}

func TestHealthOfSweeps(t *testing.T) {
	w := mixed()
	checkHealth(t, judge.Count(judge.Sweep(w.a, w.d)), 2.0/8)
	w = newWorld()
	checkHealth(t, judge.Count(judge.Sweep(w.a, w.d)), math.NaN())
	w.keep("a", content(300))
	w.keep("b", content(300))
	checkHealth(t, judge.Count(judge.Sweep(w.a, w.d)), 1)
	w.rot("b", 0)
	checkHealth(t, judge.Count(judge.Sweep(w.a, w.d)), 0.5)
}
