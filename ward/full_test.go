package ward_test

import (
	"fmt"
	"testing"

	"darner/api"
)

// A holding is one of a block.
type holding struct {
	path          string
	block, reason int
}

// spread returns n blocks, of as many paths as there are with so many of each,
// which begin with block 0.
func spread(n, each int) []holding {
	var l []holding
	for i := range n {
		l = append(l, holding{fmt.Sprintf("d/f%03d", i/each), i % each, 1 + i%3})
	}
	return l
}

// numbersPerPath are how many blocks each path of a full ward has.
var numbersPerPath = []int{1, 2, 7, 63, 64}

// full returns a ward that holds 1,000 blocks.
func full(t *testing.T, each int) pair {
	t.Helper()
	p := newPair(t, fmt.Sprint("a full ward with ", each, " blocks of each path"))
	for i, h := range spread(1000, each) {
		e, want := p.w.Hold(h.path, h.block, h.reason), p.m.hold(h.path, h.block, h.reason)
		if e != api.OK || want != api.OK {
			t.Fatalf("P15.1: %s: Hold of block %d of 1,000: error %d", p.what, i+1, e)
		}
	}
	p.check("Hold of 1,000 blocks", "new")
	return p
}

// refuseMore checks that no other block is held.
func (p pair) refuseMore() {
	p.t.Helper()
	for _, h := range []holding{{"new", 0, 1}, {"new", 63, 3}, {"d/f015", 50, 2}, {"a", 1, 1}, {longest, 9, 1}} {
		if p.m[place{h.path, h.block}] == 0 {
			after := fmt.Sprint("Hold of another block than 1,000, ", h)
			checkErrors(p.t, p.what+": "+after, p.w.Hold(h.path, h.block, h.reason), api.ErrMany)
		}
	}
	if p.w.Len() != 1000 {
		p.t.Errorf("P15.1: %s: Len: %d", p.what, p.w.Len())
	}
	p.check("Hold of other blocks than 1,000 (R4)", "new", "d/f015", longest)
}

func TestFullWards(t *testing.T) {
	for _, each := range numbersPerPath {
		p := full(t, each)
		p.refuseMore()
		p.parsed().refuseMore()
	}
}

// TestErrorsOfFullWards: ErrPath and ErrRange come before ErrMany.
func TestErrorsOfFullWards(t *testing.T) {
	p := full(t, 64)
	for _, x := range otherPaths {
		for _, block := range []int{0, 63, -1, 64} {
			checkErrors(t, fmt.Sprintf("Hold(%q, %d, 1) in a full ward", x, block), p.w.Hold(x, block, 1), api.ErrPath)
		}
	}
	for _, x := range []string{"new", "d/f000", longest} {
		for _, block := range otherBlocks {
			checkErrors(t, fmt.Sprintf("Hold(%q, %d, 1) in a full ward", x, block), p.w.Hold(x, block, 1), api.ErrRange)
		}
		for _, reason := range otherReasons {
			checkErrors(t, fmt.Sprintf("Hold(%q, 5, %d) in a full ward", x, reason), p.w.Hold(x, 5, reason), api.ErrRange)
		}
	}
	p.check("errors in a full ward (R4)", "new", longest)
}

// TestHoldAgainInFullWards: a reason may be replaced.
func TestHoldAgainInFullWards(t *testing.T) {
	for _, each := range numbersPerPath {
		p, l := full(t, each), spread(1000, each)
		for _, h := range []holding{l[0], l[500], l[999]} {
			for _, reason := range []int{1, 2, 3, h.reason} {
				p.holds(h.path, reason, h.block)
			}
		}
		p.refuseMore()
	}
}

// TestFreeInFullWards: what is released, by any function, makes room for as many
// other blocks.
func TestFreeInFullWards(t *testing.T) {
	for _, each := range numbersPerPath {
		p, l := full(t, each), spread(1000, each)
		for n, h := range []holding{l[0], l[1], l[499], l[999]} {
			checkErrors(t, p.what+": Free", p.free(h.path, h.block), api.OK)
			p.holds("new", 1, n)
			checkErrors(t, p.what+": Hold of what was released", p.hold(h.path, h.block, 1), api.ErrMany)
			checkErrors(t, p.what+": Free of what is not held", p.free("newer", 3), api.ErrNone)
			p.refuseMore()
		}
	}
}

func TestDropInFullWards(t *testing.T) {
	for _, each := range numbersPerPath {
		p := full(t, each)
		p.holds("newest", 2, all()[:p.drop("d/f002")]...)
		p.refuseMore()
	}
}

// TestMoveInFullWards: to a path without blocks it makes no room, and needs none.
func TestMoveInFullWards(t *testing.T) {
	for _, each := range numbersPerPath {
		p := full(t, each)
		checkErrors(t, p.what+": Move", p.move("d/f003", "new"), api.OK)
		p.refuseMore()
		checkErrors(t, p.what+": Move to itself", p.move("new", "new"), api.OK)
		p.refuseMore()
		released := p.m.held("d/f001")
		checkErrors(t, p.what+": Move", p.move("new", "d/f001"), api.OK)
		p.holds("newest", 2, released...)
		p.refuseMore()
	}
}
