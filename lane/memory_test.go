package lane_test

import (
	"fmt"
	"slices"
	"testing"

	"darner/lane"
)

// spoilWork overwrites pieces of work, also in the spare capacity.
func spoilWork(l []lane.Work) {
	l = l[:cap(l)]
	for i := range l {
		l[i] = lane.Work{Path: "spoilt", From: -5, To: 99, Enrol: true}
	}
}

// spoilPaths overwrites paths, also in the spare capacity.
func spoilPaths(l []string) {
	l = l[:cap(l)]
	for i := range l {
		l[i] = "spoilt"
	}
}

// TestResultsAreNewMemory: those of Tick and Waiting.
func TestResultsAreNewMemory(t *testing.T) {
	p := newPair(t, "results that are overwritten (R6)")
	var kept, was [][]lane.Work
	for n := range 60 {
		if n%4 == 0 {
			p.put(fmt.Sprint("f", n%9), n)
		}
		first, second := p.l.Waiting(), p.l.Waiting()
		want := slices.Clone(second)
		spoilPaths(first)
		if !slices.Equal(second, want) {
			t.Errorf("R6, P14.1: two results of Waiting share memory")
		}
		p.check("overwriting a result of Waiting")
		w := p.tick(10 + n)
		kept, was = append(kept, w), append(was, slices.Clone(w))
		if n%2 == 0 {
			spoilWork(p.tick(8))
			p.check("overwriting a result of Tick")
		}
	}
	for i := range kept {
		if !slices.Equal(kept[i], was[i]) {
			t.Errorf("R6, P14.1: a result of Tick is changed later on")
		}
		spoilWork(kept[i])
		if i+1 < len(kept) && !slices.Equal(kept[i+1], was[i+1]) {
			t.Errorf("R6, P14.1: two results of Tick share memory")
		}
	}
	p.tick(100)
}

// TestWaitingIsKept: what is done later on does not change a result of Waiting.
func TestWaitingIsKept(t *testing.T) {
	p := newPair(t, "results of Waiting (R6)")
	p.putAll(1, 2, 3, 4, 5)
	l := p.l.Waiting()
	p.drop("b")
	p.put("a", 1)
	p.tick(4)
	p.put("f", 1)
	p.tick(100)
	if want := []string{"a", "b", "c", "d", "e"}; !slices.Equal(l, want) {
		t.Errorf("R6, P14.1: a result of Waiting has become %q", l)
	}
}

// TestSameCallsSameResults: R8.
func TestSameCallsSameResults(t *testing.T) {
	var all []string
	for range 20 {
		l := lane.New()
		for i := range 40 {
			l.Put(fmt.Sprint("f", (7*i)%40), i%20)
		}
		seen := ""
		for b := 2; b <= 200; b += 2 {
			w, _ := l.Tick(b)
			seen += text(w) + fmt.Sprint(l.Waiting(), l.Clock(), l.Blocks())
		}
		all = append(all, seen)
	}
	if len(slices.Compact(all)) != 1 {
		t.Error("R8, P14.1: the same calls have different results")
	}
}
