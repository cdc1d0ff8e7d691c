package lane_test

import (
	"fmt"
	"math/rand"
	"testing"

	"darner/lane"
)

// perBudget is 2 B / b, rounded up, for B blocks.
func perBudget(blocks, b int) int {
	return (2*blocks + b - 1) / b
}

// ticksNeeded returns in how many ticks with a budget, from now on, each of the
// files is finished, and each of its blocks is done. It gives up after many more
// than are promised.
func ticksNeeded(l *lane.Lanes, b int, files map[string]int) int {
	blocks := 0
	finished := map[string]bool{}
	done := map[string]map[int]bool{}
	for x, n := range files {
		blocks += n
		done[x] = map[int]bool{}
	}
	complete := func() bool {
		for x, n := range files {
			if !finished[x] || len(done[x]) < n {
				return false
			}
		}
		return true
	}
	n := 0
	for !complete() && n < perBudget(blocks, b)+100 {
		n++
		work, _ := l.Tick(b)
		for _, w := range work {
			finished[w.Path] = finished[w.Path] || w.Done
			for i := w.From; i < w.To; i++ {
				done[w.Path][i] = true
			}
		}
	}
	return n
}

// newFiles returns lanes into which files of so many blocks were put, and the
// numbers of their blocks.
func newFiles(blocks ...int) (*lane.Lanes, map[string]int) {
	l, files := lane.New(), map[string]int{}
	for i, n := range blocks {
		x := fmt.Sprint("f", (i*37)%100)
		files[x] = n
		l.Put(x, n)
	}
	return l, files
}

// repeated returns a list of n equal numbers.
func repeated(number, n int) []int {
	l := make([]int, n)
	for i := range l {
		l[i] = number
	}
	return l
}

// lists are numbers of blocks.
func lists() [][]int {
	l := [][]int{
		nil, {0}, {1}, {2}, {3}, {63}, {64}, {0, 0, 0}, {0, 64}, {64, 0}, {1, 0, 1}, {64, 64}, {1, 64, 1}, {64, 1, 64},
		repeated(0, 64), repeated(1, 64), repeated(7, 10), repeated(64, 64), repeated(63, 13),
	}
	var rising []int
	for n := range 65 {
		rising = append(rising, n)
	}
	return append(l, rising)
}

func sum(l []int) int {
	n := 0
	for _, x := range l {
		n += x
	}
	return n
}

// checkBound checks P14.2, for lanes with these files.
func checkBound(t *testing.T, what string, l *lane.Lanes, b int, files map[string]int) int {
	t.Helper()
	blocks := l.Blocks()
	n := ticksNeeded(l, b, files)
	if most := perBudget(blocks, b) + 2; n > most {
		t.Errorf("P14.2: %s, %d blocks in %d files, budget %d: %d ticks are needed, %d are promised", what, blocks, len(files), b, n, most)
	}
	return n
}

// checkExactly checks P14.2, and the number of ticks.
func checkExactly(t *testing.T, want int, what string, l *lane.Lanes, b int, files map[string]int) {
	t.Helper()
	blocks := l.Blocks()
	if n := checkBound(t, what, l, b, files); n != want {
		t.Errorf("P14.1: %s, %d blocks in %d files, budget %d: %d ticks are needed instead of %d", what, blocks, len(files), b, n, want)
	}
}

// TestBoundOfNewFiles: as half of the budget is theirs alone, they need exactly
// 2 B / b ticks, but at least one.
func TestBoundOfNewFiles(t *testing.T) {
	for _, list := range lists() {
		for b := 2; b <= 1000; b += 2 {
			l, files := newFiles(list...)
			checkExactly(t, max(perBudget(sum(list), b), min(len(list), 1)), "new files", l, b, files)
		}
	}
}

// TestBoundOfEnrolledFiles: in the ticks after those that finish them all, which
// have begun some of them again.
func TestBoundOfEnrolledFiles(t *testing.T) {
	for _, list := range lists() {
		for b := 2; b <= 1000; b += 2 {
			l, files := newFiles(list...)
			for range perBudget(sum(list), b) {
				l.Tick(b)
			}
			for range 3 {
				checkBound(t, "enrolled files", l, b, files)
			}
		}
	}
}

// TestBoundOfMixedFiles: in both lanes, with a file begun in either of them, by
// ticks with the same or with other budgets.
func TestBoundOfMixedFiles(t *testing.T) {
	worst := 0
	rounds := 100
	if testing.Short() {
		rounds = 5
	}
	for seed := range rounds {
		for b := 2; b <= 1000; b += 2 {
			r := rand.New(rand.NewSource(int64(500*seed + b/2)))
			l, files := lane.New(), map[string]int{}
			most := 1 + r.Intn(64)
			for range r.Intn(20) {
				x, n := fmt.Sprint("f", r.Intn(9)), r.Intn(most+1)
				files[x] = n
				l.Put(x, n)
				for range r.Intn(4) {
					l.Tick([]int{b, someBudget(r), 2, 4}[r.Intn(4)])
				}
			}
			blocks := l.Blocks()
			n := checkBound(t, fmt.Sprint("mixed files, round ", seed), l, b, files)
			worst = max(worst, n-perBudget(blocks, b))
		}
	}
	if worst != 1 {
		t.Errorf("P14.1: up to %d more ticks than 2 B / b are needed, instead of 1", worst)
	}
}

// TestBoundIsReached: these files need one tick more than 2 B / b, as a file that
// was begun is finished in one tick, and its first blocks are done in a later one.
func TestBoundIsReached(t *testing.T) {
	for n := 2; n <= 64; n++ {
		l, files := newFiles(n)
		l.Tick(2 * (n - 1))
		checkExactly(t, 2, "a file begun in the enrol lane", l, 2*n, files)
	}
	for n := 3; n <= 64; n++ {
		l, files := newFiles(n)
		l.Tick(2 * n)
		l.Tick((n - 1) / 2 * 2)
		checkExactly(t, 2, "a file begun in the scrub lane", l, 2*n, files)
	}
	// With budget 2, a block is enrolled in each tick, and another one is scrubbed.
	for n := 2; n <= 64; n++ {
		l, files := newFiles(n, 64)
		l.Tick(2 * (n - 1))
		checkExactly(t, 64+1, "a file begun before one of 64 blocks", l, 2, files)
	}
}

// TestBoundOfScrubbedFiles: as all of the budget is theirs, they need exactly half
// as many ticks.
func TestBoundOfScrubbedFiles(t *testing.T) {
	for _, list := range lists() {
		if sum(list) > 500 {
			continue // They cannot be enrolled in one tick.
		}
		for b := 2; b <= 1000; b += 2 {
			l, files := newFiles(list...)
			l.Tick(1000)
			checkExactly(t, max((sum(list)+b-1)/b, min(len(list), 1)), "scrubbed files", l, b, files)
		}
	}
}
