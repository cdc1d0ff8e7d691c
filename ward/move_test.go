package ward_test

import (
	"fmt"
	"slices"
	"testing"

	"darner/api"
)

// lists are blocks of a path.
func lists() [][]int {
	return [][]int{{0}, {63}, {0, 63}, {5, 6, 7}, {6, 40}, all()}
}

// checkMoved checks that a path's blocks are those of a Move, for a reason.
func (p pair) checkMoved(x string, reason int, blocks []int) {
	p.t.Helper()
	if got := p.w.Held(x); !slices.Equal(got, blocks) {
		p.t.Errorf("P15.1: %s: Held(%q) after Move: %d instead of %d", p.what, x, got, blocks)
	}
	for _, block := range blocks {
		if got, e := p.w.Why(x, block); got != reason || e != api.OK {
			p.t.Errorf("P15.1: %s: Why(%q, %d) after Move: %d, error %d", p.what, x, block, got, e)
		}
	}
}

func TestMoveToPathsWithoutBlocks(t *testing.T) {
	for _, blocks := range lists() {
		for _, to := range filePaths[1:] {
			p := newPair(t, fmt.Sprint("Move of blocks ", blocks))
			p.holds("a", 2, blocks...)
			p.holds("other", 1, 0, 7)
			checkErrors(t, fmt.Sprintf("Move to %q", to), p.move("a", to), api.OK)
			p.checkMoved(to, 2, blocks)
			p.checkMoved("a", 0, nil)
			if got := len(p.w.Paths()); got != 2 || slices.Contains(p.w.Paths(), "a") {
				t.Errorf("P15.1: Paths after Move: %q", p.w.Paths())
			}
			p.checkRanges("a")
			p.checkRanges(to)
			checkErrors(t, "Move of a path that was moved", p.move("a", to), api.ErrNone)
		}
	}
}

// TestMoveToPathsWithBlocks: of other and of the same numbers, which are released.
func TestMoveToPathsWithBlocks(t *testing.T) {
	for _, from := range lists() {
		for _, to := range lists() {
			p := newPair(t, fmt.Sprint("Move of blocks ", from, " to ", to))
			p.holds("b", 1, from...)
			p.holds("a", 3, to...)
			p.holds("b/c", 2, 6)
			checkErrors(t, p.what, p.move("b", "a"), api.OK)
			p.checkMoved("a", 1, from)
			p.checkMoved("b", 0, nil)
			p.checkMoved("b/c", 2, []int{6})
			// What is held from now on concerns one of the two alone.
			p.holds("b", 2, to...)
			p.free("a", from[0])
			checkErrors(t, p.what+" and back", p.move("b", "a"), api.OK)
			p.checkMoved("a", 2, to)
			p.parsed()
		}
	}
}

func TestMoveToItself(t *testing.T) {
	for _, blocks := range lists() {
		for _, x := range []string{"a", "d/x", longest} {
			p := newPair(t, fmt.Sprint("Move to itself of blocks ", blocks))
			p.holds(x, 2, blocks...)
			p.holds("b", 1, 6)
			for range 3 {
				checkErrors(t, p.what, p.move(x, x), api.OK)
				p.checkMoved(x, 2, blocks)
			}
			p.parsed().free(x, blocks[0])
		}
	}
}

// TestMoveOfPathsWithoutBlocks: it has that error whatever the other path is, and
// releases nothing of it.
func TestMoveOfPathsWithoutBlocks(t *testing.T) {
	p := newPair(t, "Move of paths without blocks")
	p.holds("b", 1, 0, 9)
	p.holds("a/b", 3, 63)
	p.holds("gone", 3, 5)
	p.free("gone", 5)
	for _, from := range append([]string{"a", "gone", "B", "b/", "a/b/c", longest}, otherPaths...) {
		for _, to := range append([]string{"b", "a/b", "new", from, longest}, otherPaths...) {
			checkErrors(t, fmt.Sprintf("Move(%q, %q)", from, to), p.move(from, to), api.ErrNone)
		}
	}
}

func TestMoveToOtherPaths(t *testing.T) {
	for _, blocks := range lists() {
		p := newPair(t, fmt.Sprint("Move of blocks ", blocks))
		p.holds("a", 2, blocks...)
		p.holds("b", 1, 5)
		for _, to := range otherPaths {
			checkErrors(t, fmt.Sprintf("Move to %q", to), p.move("a", to), api.ErrPath)
		}
		p.checkMoved("a", 2, blocks)
	}
}

// TestMoveOfMany: a chain, and a ring by way of another path.
func TestMoveOfMany(t *testing.T) {
	p := newPair(t, "many moves")
	for i := range 10 {
		p.holds(fmt.Sprint("f", i), 1+i%3, i, 20+i)
	}
	p.move("f9", "aside")
	for i := 8; i >= 0; i-- {
		checkErrors(t, "Move", p.move(fmt.Sprint("f", i), fmt.Sprint("f", i+1)), api.OK)
	}
	p.move("aside", "f0")
	for i := range 10 {
		was := (i + 9) % 10
		p.checkMoved(fmt.Sprint("f", i), 1+was%3, []int{was, 20 + was})
	}
	if p.w.Len() != 20 {
		t.Errorf("P15.1: Len after moves: %d instead of 20", p.w.Len())
	}
}
