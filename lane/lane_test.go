package lane_test

import (
	"fmt"
	"math"
	"strings"
	"testing"

	"darner/api"
	"darner/lane"
)

// longest is a path of the greatest length.
var longest = strings.Repeat("long/", 19) + "paths"

// filePaths are of kind 3.
var filePaths = []string{
	"a", "Z", "0", "-", "_", "~", "+", "...", "a/b", "a/b/c.d", ".tmp", ".tmp-a", ".par", ".par-a", "a.tmp~b", "a.par~b",
	".tmp~a/b", ".par~a/b", ".par~archive.0/x", ".TMP~a", ".Par~a", "tmp~a", "par~a", "..tmp~a", "conflict~0~", longest,
}

// otherPaths are of no kind or of another one.
var otherPaths = []string{
	"", "/", "/a", "a/", "a//b", ".", "..", "./a", "a/.", "a/../b", "a b", " ", "a\x00", "a\n", "a\\b", "a:b", "\xff", "é", "a/é",
	longest + "x", longest + "/x", strings.Repeat("x", 101),
	".tmp~", ".tmp~a", "d/.tmp~", "d/.tmp~a", "d/e/.tmp~a", ".tmp~a/.tmp~b",
	".par~", ".par~a", "d/.par~", "d/.par~a", ".par~archive.0", ".par~archive.1", ".tmp~a/.par~b",
}

func TestNew(t *testing.T) {
	p := newPair(t, "new lanes")
	p.check("New", append(filePaths, otherPaths...)...)
	for _, x := range append(filePaths, otherPaths...) {
		p.drop(x)
	}
	for n := range 5 {
		p.do(2*(n+1), "")
	}
	p.check("ticks without files", filePaths...)
}

// TestLanesAreIndependent: of one another.
func TestLanesAreIndependent(t *testing.T) {
	p, q := newPair(t, "first lanes"), newPair(t, "second lanes")
	p.putAll(3, 2)
	q.check("a Put into other lanes", "a", "b")
	q.putAll(1, 9)
	p.do(4, "a:0-2e")
	q.do(2, "a:0-1e!")
	p.check("a Tick of other lanes", "a", "b")
	q.drop("a")
	p.check("a Drop from other lanes", "a", "b")
	p.do(4, "a:2-3e! b:0-1e")
	q.do(100, "b:0-9e!")
	newPair(t, "third lanes").check("New", "a", "b")
}

func TestPutOfPaths(t *testing.T) {
	p := newPair(t, "paths of files")
	for i, x := range filePaths {
		p.put(x, i)
	}
	// Paths may clash.
	p.put("a/b/c.d/e", 1)
	for _, x := range filePaths {
		p.put(x, 1)
	}
	for p.m.first(true) != nil {
		p.tick(10)
	}
	p.tick(1000)
}

// refuse checks that a Put returns an error, and changes nothing.
func (p pair) refuse(x string, blocks int, want api.Errno) {
	p.t.Helper()
	after := fmt.Sprintf("Put(%q, %d)", x, blocks)
	if e := p.l.Put(x, blocks); e != want {
		p.t.Errorf("P14.1: %s: %s: %d instead of %d", p.what, after, e, want)
	}
	p.check(after, x)
}

// TestPutOfOtherPaths: with any number of blocks, also one out of range.
func TestPutOfOtherPaths(t *testing.T) {
	p := newPair(t, "other paths")
	p.putAll(4, 2)
	p.tick(4)
	for _, x := range otherPaths {
		for _, n := range []int{0, 1, 64, 65, -1, math.MinInt, math.MaxInt} {
			p.refuse(x, n, api.ErrPath)
		}
		p.drop(x)
	}
	p.do(4, "a:2-4e!")
}

func TestPutOfBlocks(t *testing.T) {
	for n := -70; n <= 140; n++ {
		p := newPair(t, "one file")
		p.put("a", n)
		p.tick(1000)
		p.tick(1000)
	}
	for _, n := range []int{-1, 65, 66, 128, 256, -64, 1 << 32, 1<<32 + 1, -1 << 32, math.MinInt, math.MinInt + 1, math.MaxInt} {
		p := newPair(t, "refused numbers of blocks")
		p.refuse("a", n, api.ErrRange)
		p.putAll(4, 2)
		p.tick(2)
		p.refuse("a", n, api.ErrRange)
		p.refuse("b", n, api.ErrRange)
		p.do(2, "a:1-2e")
		p.tick(8)
		p.refuse("a", n, api.ErrRange)
		p.do(6, "a:0-4s! b:0-2s!")
	}
}

// TestPutAgain: of a file in the enrol lane, it is appended, as often as it is put.
func TestPutAgain(t *testing.T) {
	for _, x := range []string{"a", "b", "c"} {
		p := newPair(t, "put twice: "+x)
		p.putAll(3, 3, 3)
		for n := range 3 {
			p.put(x, 3+n)
			p.put(x, 2)
		}
		p.tick(6)
		p.tick(6)
		p.tick(6)
	}
	p := newPair(t, "put in turn")
	p.putAll(1, 2, 3)
	p.put("b", 2)
	p.put("a", 4)
	p.do(10, "c:0-3e! b:0-2e!")
	p.do(10, "a:0-4e! b:0-2s! c:0-3s!")
}

// TestPutOfBegunFile: some of its blocks are done, all of them are done again.
func TestPutOfBegunFile(t *testing.T) {
	p := newPair(t, "begun in the enrol lane")
	p.putAll(5, 3)
	p.do(4, "a:0-2e")
	p.put("a", 5)
	p.do(6, "b:0-3e!")
	p.do(4, "a:0-2e b:0-2s")
	p.do(6, "a:2-5e! b:2-3s!")

	p = newPair(t, "begun and alone")
	p.putAll(5)
	p.do(8, "a:0-4e")
	p.put("a", 3)
	p.do(4, "a:0-2e")
	p.put("a", 1)
	p.do(4, "a:0-1e!")

	p = newPair(t, "begun in the scrub lane")
	p.putAll(5, 3)
	p.do(20, "a:0-5e! b:0-3e!")
	p.do(4, "a:0-4s")
	p.put("a", 5)
	p.do(4, "a:0-2e b:0-2s")
	p.do(6, "a:2-5e! b:2-3s!")
	p.do(8, "a:0-5s! b:0-3s!")
}

// TestPutOfFinishedFile: it is no longer in the scrub lane.
func TestPutOfFinishedFile(t *testing.T) {
	for x, want := range map[string]string{
		"a": "a:0-4s! b:0-2s! c:0-3s!",
		"b": "a:0-1s! b:0-4s! c:0-3s!",
		"c": "a:0-1s! b:0-2s! c:0-4s!",
	} {
		p := newPair(t, "finished and put: "+x)
		p.putAll(1, 2, 3)
		p.do(20, "a:0-1e! b:0-2e! c:0-3e!")
		p.put(x, 4)
		p.tick(2)
		p.tick(6)
		p.tick(20)
		p.do(20, want)
	}
	p := newPair(t, "finished and put")
	p.putAll(1, 2, 3)
	p.do(20, "a:0-1e! b:0-2e! c:0-3e!")
	p.put("d", 2)
	p.put("b", 1)
	p.do(4, "d:0-2e! a:0-1s! c:0-1s")
	p.do(4, "b:0-1e! c:1-3s! a:0-1s!")
	p.do(4, "d:0-2s! a:0-1s! b:0-1s!")
	p.do(2, "c:0-2s")
}

// TestDrop: of the first, the last and a file between them, and twice.
func TestDrop(t *testing.T) {
	for _, finished := range []bool{false, true} {
		for _, order := range []string{"abcd", "dcba", "bcad", "cdab", "badc"} {
			p := newPair(t, fmt.Sprint("dropped ", order, ", finished ", finished))
			p.putAll(1, 2, 3, 4)
			if finished {
				p.tick(1000)
			}
			p.drop("e")
			for _, x := range order {
				p.drop(string(x))
				p.drop(string(x))
				p.drop("e")
			}
			p.do(4, "")
			p.putAll(1, 2)
			p.do(4, "a:0-1e! b:0-1e")
		}
	}
}

// TestDropOfBegunFile: the next file of its lane is begun.
func TestDropOfBegunFile(t *testing.T) {
	p := newPair(t, "begun in the enrol lane")
	p.putAll(5, 3, 2)
	p.do(6, "a:0-3e")
	p.drop("a")
	p.do(4, "b:0-2e")
	p.drop("c")
	p.do(4, "b:2-3e!")
	p.put("a", 5)
	p.do(6, "a:0-3e b:0-3s!")

	p = newPair(t, "begun in the scrub lane")
	p.putAll(5, 3, 2)
	p.do(20, "a:0-5e! b:0-3e! c:0-2e!")
	p.do(4, "a:0-4s")
	p.drop("a")
	p.do(2, "b:0-2s")
	p.drop("c")
	p.do(2, "b:2-3s!")
	p.do(2, "b:0-2s")
	p.put("c", 2)
	p.drop("b")
	p.do(2, "c:0-1e")
}

// TestDropInBothLanes: only the file is dropped, in whichever lane it is.
func TestDropInBothLanes(t *testing.T) {
	for _, x := range []string{"a", "b", "c", "d"} {
		p := newPair(t, "dropped: "+x)
		p.putAll(2, 2, 4, 2)
		p.do(8, "a:0-2e! b:0-2e!")
		p.do(2, "c:0-1e a:0-1s")
		p.drop(x)
		p.tick(4)
		p.tick(4)
		p.tick(4)
	}
}

// TestLastAndWaiting: of a file that goes through both lanes.
func TestLastAndWaiting(t *testing.T) {
	l := lane.New()
	last := func(what string, want int, wantE api.Errno) {
		t.Helper()
		if n, e := l.Last("a"); n != want || e != wantE {
			t.Errorf("P14.1: Last, %s: %d, %d instead of %d, %d", what, n, e, want, wantE)
		}
	}
	steps := []struct {
		what string
		f    func()
		want int
		e    api.Errno
	}{
		{"new", func() {}, 0, api.ErrNone},
		{"after ticks", func() { l.Tick(2); l.Tick(2) }, 0, api.ErrNone},
		{"put", func() { l.Put("a", 3) }, -1, api.OK},
		{"begun", func() { l.Tick(4) }, -1, api.OK},
		{"finished in tick 4", func() { l.Tick(4) }, 4, api.OK},
		{"begun in the scrub lane", func() { l.Tick(2) }, 4, api.OK},
		{"finished in tick 6", func() { l.Tick(2) }, 6, api.OK},
		{"put again", func() { l.Put("a", 0) }, -1, api.OK},
		{"finished without blocks", func() { l.Tick(2) }, 7, api.OK},
		{"and once more", func() { l.Tick(2) }, 8, api.OK},
		{"dropped", func() { l.Drop("a") }, 0, api.ErrNone},
	}
	for _, s := range steps {
		s.f()
		last(s.what, s.want, s.e)
		waits := len(l.Waiting()) == 1 && l.Waiting()[0] == "a"
		if waits != (s.want == -1) {
			t.Errorf("P14.1: Waiting, %s: %q", s.what, l.Waiting())
		}
	}
	if l.Clock() != 8 || l.Blocks() != 0 {
		t.Errorf("P14.1: Clock: %d, Blocks: %d instead of 8 and 0", l.Clock(), l.Blocks())
	}
}

// TestBlocks: of all files in both lanes, done or not.
func TestBlocks(t *testing.T) {
	l := lane.New()
	check := func(what string, want int) {
		t.Helper()
		if n := l.Blocks(); n != want {
			t.Errorf("P14.1: Blocks, %s: %d instead of %d", what, n, want)
		}
	}
	check("new", 0)
	for i, n := range []int{64, 0, 10, 64, 1} {
		l.Put(fmt.Sprint("f", i), n)
	}
	check("put", 139)
	for range 20 {
		l.Tick(10)
		check("after a tick", 139)
	}
	l.Put("f2", 3)
	check("one with fewer blocks", 132)
	l.Put("f2", 65)
	l.Put("f9", -1)
	check("refused ones", 132)
	l.Drop("f0")
	l.Drop("f0")
	check("one dropped", 68)
	for i := range 5 {
		l.Drop(fmt.Sprint("f", i))
	}
	check("all dropped", 0)
}
