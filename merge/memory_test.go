package merge_test

import (
	"fmt"
	"math/rand"
	"slices"
	"testing"

	"darner/merge"
	"darner/vector"
)

// overwrite sets all elements, also those of the spare capacity.
func overwrite[E any](l []E, x E) {
	all := l[:cap(l)]
	for i := range all {
		all[i] = x
	}
}

// roomy returns a list with others around it, which its spare capacity can reach,
// and all of it.
func roomy[E any](l []E, x E) (part, whole []E) {
	whole = slices.Concat([]E{x}, l, []E{x, x, x, x, x, x, x, x})
	return whole[1 : 1+len(l)], whole
}

// results are those of all functions that take lists.
type results struct {
	winner         merge.Fact
	ok             bool
	merged, unused []merge.Fact
	held           []string
	moves          [][2]string
}

func resultsOf(a, b []merge.Fact, seen []vector.Vector) results {
	var r results
	r.winner, r.ok = merge.Winner(a[:min(1, len(a))])
	r.merged, r.unused = merge.Merge(a, b), merge.Expire(a, seen...)
	r.held, r.moves = merge.Holds(a), merge.Moves(a, b)
	return r
}

func (r results) overwrite() {
	overwrite(r.merged, file("spoilt", vec(9), 9))
	overwrite(r.unused, file("spoilt", vec(9), 9))
	overwrite(r.held, "spoilt")
	overwrite(r.moves, [2]string{"spoilt", "spoilt"})
}

// TestListsShareNoMemory: arguments are not modified, nor what their spare
// capacity reaches; results are new memory.
func TestListsShareNoMemory(t *testing.T) {
	r := rand.New(rand.NewSource(10))
	spoilt := file("spoilt", vec(1), 8)
	all := pools()
	for i := range 500 {
		p := all[i%len(all)]
		a, wholeA := roomy(append(p.facts(r, r.Intn(6)), file("old", vec(1), 5), file("clash", vec(1), 5), file("clash/x", vec(1), 5)), spoilt)
		b, wholeB := roomy(append(p.facts(r, r.Intn(6)), file("new", vec(1), 5)), spoilt)
		seen, wholeSeen := roomy([]vector.Vector{p.versions[r.Intn(len(p.versions))], filled(1)}, vec(7))
		wasA, wasB, wasSeen := slices.Clone(wholeA), slices.Clone(wholeB), slices.Clone(wholeSeen)
		first, second := resultsOf(a, b, seen), resultsOf(a, b, seen)
		want := fmt.Sprint(first)
		if got := fmt.Sprint(resultsOf(slices.Clone(a), slices.Clone(b), slices.Clone(seen))); got != want {
			t.Fatalf("R8, P16.1: results with spare capacity: %s instead of %s", want, got)
		}
		first.overwrite()
		if !slices.Equal(wholeA, wasA) || !slices.Equal(wholeB, wasB) || !slices.Equal(wholeSeen, wasSeen) {
			t.Fatalf("R6, P16.1: arguments are modified, by the functions or with their results: %s, %s", text(wholeA), text(wholeB))
		}
		overwrite(wholeA, spoilt)
		overwrite(wholeB, spoilt)
		overwrite(wholeSeen, vec(7))
		if got := fmt.Sprint(second); got != want {
			t.Fatalf("R6, P16.1: results share memory with arguments or others: %s instead of %s", got, want)
		}
	}
}

// TestAllFactsAreNewMemory: also where nothing is left out.
func TestAllFactsAreNewMemory(t *testing.T) {
	l := list(file("a", vec(1), 1), gone("b", vec(1)), file("c", vec(1), 1))
	was := slices.Clone(l)
	for _, got := range [][]merge.Fact{merge.Merge(l, nil), merge.Merge(nil, l), merge.Expire(l), merge.Expire(l, vec())} {
		if !slices.Equal(got, was) {
			t.Errorf("P16.1: %s instead of %s", text(got), text(was))
		}
		overwrite(got, merge.Fact{})
		if !slices.Equal(l, was) {
			t.Fatal("R6, P16.1: a result shares memory with the argument")
		}
	}
}

// TestSameCallsSameResults: R8.
func TestSameCallsSameResults(t *testing.T) {
	r := rand.New(rand.NewSource(11))
	for _, p := range pools() {
		for range 30 {
			a, b, seen := p.facts(r, 6), p.facts(r, 6), p.versions
			want := fmt.Sprint(resultsOf(a, b, seen))
			for range 8 {
				if got := fmt.Sprint(resultsOf(a, b, seen)); got != want {
					t.Fatalf("R8, P16.1: the same calls: %s, then %s", want, got)
				}
			}
		}
	}
}
