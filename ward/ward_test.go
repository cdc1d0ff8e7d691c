package ward_test

import (
	"fmt"
	"maps"
	"math"
	"slices"
	"strings"
	"testing"

	"darner/api"
	"darner/ward"
)

// longest is a path of the greatest length.
var longest = strings.Repeat("long/", 19) + "paths"

// filePaths are of kind 3.
var filePaths = []string{
	"a", "Z", "0", "-", "_", "~", "+", "...", "a/b", "a/b/c.d", ".tmp", ".tmp-a", ".par", ".par-a", "a.tmp~b", "a.par~b",
	".tmp~a/b", ".par~a/b", ".par~archive.0/x", ".TMP~a", ".Par~a", "tmp~a", "par~a", "..tmp~a", "conflict~0~", longest,
}

// otherPaths are of no kind or of another one.
var otherPaths = []string{
	"", "/", "/a", "a/", "a//b", ".", "..", "./a", "a/.", "a/../b", "a b", " ", "a\x00", "a\n", "a\\b", "a:b", "\xff", "é", "a/é",
	longest + "x", longest + "/x", strings.Repeat("x", 101),
	".tmp~", ".tmp~a", "d/.tmp~", "d/.tmp~a", "d/e/.tmp~a", ".tmp~a/.tmp~b",
	".par~", ".par~a", "d/.par~", "d/.par~a", ".par~archive.0", ".par~archive.1", ".tmp~a/.par~b",
}

// The numbers of blocks and reasons that there are not.
var (
	otherBlocks  = []int{math.MinInt, -64, -1, 64, 65, 256, 1 << 32, math.MaxInt}
	otherReasons = []int{math.MinInt, -1, 0, 4, 5, 1<<32 + 1, math.MaxInt}
)

func checkErrors(t *testing.T, what string, got, want api.Errno) {
	t.Helper()
	if got != want {
		t.Errorf("P15.1: %s: error %d instead of %d", what, got, want)
	}
}

// all are the numbers of all blocks.
func all() []int {
	l := make([]int, 64)
	for i := range l {
		l[i] = i
	}
	return l
}

func TestNew(t *testing.T) {
	p := newPair(t, "a new ward")
	p.check("New", append(slices.Clone(filePaths), otherPaths...)...)
	for _, x := range append(slices.Clone(filePaths), otherPaths...) {
		checkErrors(t, "Free in a new ward", p.free(x, 0), api.ErrNone)
		if n := p.drop(x); n != 0 {
			t.Errorf("P15.1: Drop(%q) in a new ward: %d", x, n)
		}
		p.checkRanges(x)
	}
	if p.w.Len() != 0 || len(p.w.Paths()) != 0 || len(p.w.Held("a")) != 0 {
		t.Errorf("P15.1: a new ward: %d blocks, paths %q", p.w.Len(), p.w.Paths())
	}
}

// TestWardsAreIndependent: of one another.
func TestWardsAreIndependent(t *testing.T) {
	p, q := newPair(t, "the first ward"), newPair(t, "the second ward")
	p.holds("a", 1, 5, 6)
	q.check("a Hold in another ward", "a")
	q.holds("a", 2, 6, 7)
	p.check("a Hold in another ward", "a")
	q.drop("a")
	p.check("a Drop in another ward", "a")
	r := p.parsed()
	r.m = maps.Clone(p.m)
	r.free("a", 5)
	p.check("a Free in the ward that was parsed from its bytes", "a")
	newPair(t, "the third ward").check("New", "a")
}

// TestKnownCalls: what a ward returns, without a model.
func TestKnownCalls(t *testing.T) {
	w := ward.New()
	checkErrors(t, "Hold", w.Hold("d/x", 63, 3), api.OK)
	checkErrors(t, "Hold", w.Hold("d/x", 0, 1), api.OK)
	checkErrors(t, "Hold", w.Hold("b", 9, 2), api.OK)
	if got := fmt.Sprint(w.Len(), w.Paths(), w.Held("d/x"), w.Held("b"), w.Held("d")); got != "3 [b d/x] [0 63] [9] []" {
		t.Errorf("P15.1: three held blocks: %s", got)
	}
	for block, want := range map[int]int{0: 1, 63: 3} {
		if reason, e := w.Why("d/x", block); reason != want || e != api.OK {
			t.Errorf("P15.1: Why of block %d: %d, error %d instead of %d", block, reason, e, want)
		}
	}
	if reason, e := w.Why("d/x", 9); reason != 0 || e != api.ErrNone {
		t.Errorf("P15.1: Why of a block that is not held: %d, error %d", reason, e)
	}
	checkErrors(t, "Serve of all blocks", w.Serve("d/x", 0, 64), api.ErrHold)
	checkErrors(t, "Serve of the others", w.Serve("d/x", 1, 63), api.OK)
	checkErrors(t, "Free", w.Free("d/x", 0), api.OK)
	checkErrors(t, "Free again", w.Free("d/x", 0), api.ErrNone)
	checkErrors(t, "Move", w.Move("d/x", "b"), api.OK)
	if got := fmt.Sprint(w.Len(), w.Paths(), w.Held("d/x"), w.Held("b"), w.Drop("b"), w.Len()); got != "1 [b] [] [63] 1 0" {
		t.Errorf("P15.1: a moved block: %s", got)
	}
}

func TestHoldOfPaths(t *testing.T) {
	p := newPair(t, "paths of files")
	for i, x := range filePaths {
		p.check("paths before it", x)
		checkErrors(t, fmt.Sprintf("Hold of %q", x), p.hold(x, i, 1+i%3), api.OK)
	}
	// Paths may clash.
	p.holds("a/b/c.d/e", 1, 0, 63)
	if n := len(p.w.Paths()); n != len(filePaths)+1 {
		t.Errorf("P15.1: %d paths instead of %d", n, len(filePaths)+1)
	}
}

// TestHoldOfOtherPaths: with any blocks and reasons, also such as there are not:
// ErrPath is the first error.
func TestHoldOfOtherPaths(t *testing.T) {
	for _, with := range []string{"", "a", "b"} {
		p := newPair(t, "a ward with "+with)
		if with != "" {
			p.holds(with, 2, 0, 17, 63)
		}
		for _, x := range otherPaths {
			for _, block := range append([]int{0, 17, 63}, otherBlocks...) {
				for _, reason := range append([]int{1, 2, 3}, otherReasons...) {
					checkErrors(t, fmt.Sprintf("Hold(%q, %d, %d)", x, block, reason), p.w.Hold(x, block, reason), api.ErrPath)
				}
			}
			p.check(fmt.Sprintf("Hold of %q (R4)", x), x)
		}
	}
}

func TestHoldOfBlocks(t *testing.T) {
	for _, block := range all() {
		for reason := 1; reason <= 3; reason++ {
			p := newPair(t, "one block")
			checkErrors(t, fmt.Sprintf("Hold of block %d for reason %d", block, reason), p.hold("a", block, reason), api.OK)
			if got, e := p.w.Why("a", block); got != reason || e != api.OK {
				t.Errorf("P15.1: Why of block %d: %d, error %d instead of %d", block, got, e, reason)
			}
		}
	}
	for _, order := range [][]int{{0, 1, 2, 3}, {63, 62, 0}, {31, 0, 63, 32}, {9, 10, 1, 11, 2}, all()} {
		p := newPair(t, fmt.Sprint("blocks ", order))
		p.holds("a", 1, order...)
		p.holds("b", 2, order[0])
		p.holds("a", 3, order...)
	}
}

// TestHoldOutOfRange: of blocks and reasons that there are not, beside each other
// and beside permitted ones.
func TestHoldOutOfRange(t *testing.T) {
	p := newPair(t, "out of range")
	p.holds("a", 2, 0, 5, 63)
	for _, x := range []string{"a", "b", longest} {
		refuse := func(block, reason int) {
			t.Helper()
			checkErrors(t, fmt.Sprintf("Hold(%q, %d, %d)", x, block, reason), p.w.Hold(x, block, reason), api.ErrRange)
			p.check(fmt.Sprintf("Hold(%q, %d, %d) (R4)", x, block, reason), x)
		}
		for _, block := range otherBlocks {
			for _, reason := range append([]int{1, 2, 3}, otherReasons...) {
				refuse(block, reason)
			}
		}
		for _, reason := range otherReasons {
			for _, block := range []int{0, 5, 6, 63} {
				refuse(block, reason)
			}
		}
	}
}

// TestHoldAgain: another reason replaces the first one, and the number of blocks
// stays.
func TestHoldAgain(t *testing.T) {
	for first := 1; first <= 3; first++ {
		for second := 1; second <= 3; second++ {
			p := newPair(t, fmt.Sprintf("reason %d, then %d", first, second))
			p.holds("a", first, 0, 7, 63)
			p.holds("b", first, 7)
			p.holds("a", second, 7)
			if n := p.w.Len(); n != 4 {
				t.Errorf("P15.1: a block is held twice: Len: %d instead of 4", n)
			}
			for block, want := range map[int]int{0: first, 7: second, 63: first} {
				if got, e := p.w.Why("a", block); got != want || e != api.OK {
					t.Errorf("P15.1: %s: Why of block %d: %d, error %d instead of %d", p.what, block, got, e, want)
				}
			}
			p.holds("b", second, 7)
			p.free("a", 7)
			p.holds("a", first, 7)
		}
	}
}

// TestFree: of the first, the last and other blocks, and then once more.
func TestFree(t *testing.T) {
	for _, held := range [][]int{{0}, {63}, {17}, {0, 63}, {0, 1, 2}, {5, 6, 7, 20, 63}, all()} {
		for _, block := range held {
			p := newPair(t, fmt.Sprint("blocks ", held))
			p.holds("a", 1, held...)
			p.holds("a/b", 2, 0, block)
			checkErrors(t, fmt.Sprint("Free of ", block), p.free("a", block), api.OK)
			checkErrors(t, fmt.Sprint("Free of ", block, " once more"), p.free("a", block), api.ErrNone)
			p.checkRanges("a")
			p.holds("a", 3, block)
		}
	}
}

func TestFreeOfOthers(t *testing.T) {
	p := newPair(t, "blocks that are not held")
	p.holds("a", 1, 1, 5, 62)
	for _, block := range append([]int{0, 2, 4, 6, 61, 63}, otherBlocks...) {
		checkErrors(t, fmt.Sprint("Free of ", block), p.free("a", block), api.ErrNone)
	}
	for _, x := range append([]string{"b", "a/b", "A", "aa", longest}, otherPaths...) {
		for _, block := range []int{1, 5, 62, -1, 64} {
			checkErrors(t, fmt.Sprintf("Free(%q, %d)", x, block), p.free(x, block), api.ErrNone)
		}
	}
}

// TestFreeOfTheLastBlock: its path is then none of Paths, and there is nothing to
// move or to drop.
func TestFreeOfTheLastBlock(t *testing.T) {
	for _, block := range all() {
		p := newPair(t, "one block")
		p.holds("a", 1, block)
		p.holds("b", 1, block)
		p.free("a", block)
		if got := p.w.Paths(); !slices.Equal(got, []string{"b"}) {
			t.Errorf("P15.1: Free of the last block of a path: Paths: %q", got)
		}
		checkErrors(t, "Move of a path whose blocks are free", p.move("a", "c"), api.ErrNone)
		if n := p.drop("a"); n != 0 {
			t.Errorf("P15.1: Drop of a path whose blocks are free: %d", n)
		}
		p.free("b", block)
		p.parsed().holds("b", 2, block)
	}
}

func TestFreeOfAllBlocks(t *testing.T) {
	p := newPair(t, "64 blocks")
	p.holds("a", 1, all()...)
	for i := range all() {
		checkErrors(t, "Free", p.free("a", (i*37)%64), api.OK)
	}
	if len(p.w.Paths()) != 0 || p.w.Len() != 0 {
		t.Errorf("P15.1: all blocks are free: Paths: %q, Len: %d", p.w.Paths(), p.w.Len())
	}
}

func TestDrop(t *testing.T) {
	for _, held := range [][]int{nil, {0}, {63}, {3, 4}, all()} {
		p := newPair(t, fmt.Sprint("blocks ", held))
		p.holds("b", 1, held...)
		p.holds("a", 2, 3)
		p.holds("b/c", 3, 3, 4)
		for _, x := range append([]string{"c", "A", "b/", "b/c/d"}, otherPaths...) {
			if n := p.drop(x); n != 0 {
				t.Errorf("P15.1: Drop(%q): %d instead of 0", x, n)
			}
		}
		if n := p.drop("b"); n != len(held) {
			t.Errorf("P15.1: Drop of %d blocks: %d", len(held), n)
		}
		if n := p.drop("b"); n != 0 {
			t.Errorf("P15.1: Drop of a path twice: %d instead of 0", n)
		}
		p.checkRanges("b")
		p.holds("b", 2, 3)
		p.drop("a")
		p.drop("b/c")
		p.drop("b")
		p.check("Drop of all paths", "a", "b", "b/c")
	}
}

// TestServe: of all ranges, also such as end right before a held block or begin
// right after it, and of ranges that there are not.
func TestServe(t *testing.T) {
	for _, held := range [][]int{nil, {0}, {63}, {1}, {62}, {30}, {30, 31}, {29, 31}, {0, 63}, {1, 5, 40, 62}, all()} {
		p := newPair(t, fmt.Sprint("blocks ", held))
		for i, block := range held {
			p.holds("a", 1+i%3, block)
		}
		p.holds("b", 1, 0, 17, 33, 63)
		for _, x := range []string{"a", "b", "c", "a/b", "", ".tmp~a", "\xff"} {
			p.checkRanges(x)
		}
	}
}

// TestServeOfNoRange: ErrRange comes before ErrHold, and empty ranges are served,
// also at a held block.
func TestServeOfNoRange(t *testing.T) {
	w := ward.New()
	for _, block := range all() {
		w.Hold("a", block, 1)
	}
	for _, x := range []string{"a", "b", ""} {
		for _, bounds := range [][2]int{
			{-1, 0}, {-1, 5}, {-1, 64}, {-1, 65}, {-1, -1}, {-5, -3}, {1, 0}, {64, 63}, {5, 4}, {0, 65}, {64, 65}, {65, 65}, {65, 64}, {65, 0},
			{0, -1}, {5, 66}, {math.MinInt, 5}, {5, math.MinInt}, {5, math.MaxInt}, {math.MaxInt, math.MaxInt}, {math.MinInt, math.MinInt},
		} {
			checkErrors(t, fmt.Sprint("Serve of ", x, bounds), w.Serve(x, bounds[0], bounds[1]), api.ErrRange)
		}
		for at := range 65 {
			checkErrors(t, fmt.Sprint("Serve of ", x, " without blocks, at ", at), w.Serve(x, at, at), api.OK)
		}
	}
	for at := range 64 {
		checkErrors(t, fmt.Sprint("Serve of a held block, ", at), w.Serve("a", at, at+1), api.ErrHold)
		checkErrors(t, fmt.Sprint("Serve of another path's block, ", at), w.Serve("b", at, at+1), api.OK)
	}
}

// TestOrderOfPaths: it is bytewise.
func TestOrderOfPaths(t *testing.T) {
	want := []string{"+", "-", "A", "B/c", "a", "a+", "a-", "a.b", "a/b", "a/b/c", "a0", "aa", "b", "~"}
	for shift := range want {
		p := newPair(t, "paths in another order")
		for i := range want {
			p.holds(want[(5*i+shift)%len(want)], 1, i)
		}
		if got := p.w.Paths(); !slices.Equal(got, want) {
			t.Errorf("P15.1: Paths: %q instead of %q", got, want)
		}
	}
}
