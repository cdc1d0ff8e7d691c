package lane_test

import (
	"fmt"
	"math"
	"slices"
	"strings"
	"testing"

	"darner/api"
	"darner/lane"
)

// TestTickOfEveryBudget: with more blocks in each lane than a tick does.
func TestTickOfEveryBudget(t *testing.T) {
	for b := 2; b <= 1000; b += 2 {
		p := newPair(t, fmt.Sprint("budget ", b))
		for i := range 25 {
			p.put(fmt.Sprint("f", i), 64-i)
		}
		for p.m.first(true) != nil {
			p.tick(1000)
		}
		for i := range 10 {
			p.put(fmt.Sprint("g", i), 60+i%5)
		}
		var done [2]int
		for _, w := range p.tick(b) {
			if w.Enrol {
				done[0] += w.To - w.From
			} else {
				done[1] += w.To - w.From
			}
		}
		if done != [2]int{b / 2, b / 2} {
			t.Errorf("P14.1: a tick with budget %d does %d blocks in the enrol lane, %d in the scrub lane", b, done[0], done[1])
		}
		p.tick(b)
		p.tick(1002 - b)
	}
}

// otherBudgets are those that there are not.
func otherBudgets() []int {
	l := []int{0, -1, -2, -1000, 1001, 1002, 1003, 1004, 2000, 1 << 32, 1<<32 + 2, -1 << 32, math.MinInt, math.MinInt + 1, math.MinInt + 2, math.MaxInt, math.MaxInt - 1}
	for b := 1; b < 1000; b += 2 {
		l = append(l, b)
	}
	return l
}

// TestTickOfOtherBudgets: nothing is changed, wherever both lanes are.
func TestTickOfOtherBudgets(t *testing.T) {
	for _, b := range otherBudgets() {
		p := newPair(t, fmt.Sprint("budget ", b))
		p.tick(b)
		p.putAll(3, 0, 2)
		for range 12 {
			w, e := p.l.Tick(b)
			if len(w) != 0 || e != api.ErrRange {
				t.Errorf("P14.1, R3: Tick(%d): %v, %d", b, w, e)
			}
			p.check("a refused Tick")
			p.tick(2)
		}
	}
}

// TestTickOfLongFiles: that need more than one tick, in each lane.
func TestTickOfLongFiles(t *testing.T) {
	p := newPair(t, "long files")
	p.putAll(5, 3)
	p.do(4, "a:0-2e")
	p.do(4, "a:2-4e")
	p.do(4, "a:4-5e! b:0-1e")
	p.do(4, "b:1-3e! a:0-2s")
	p.do(4, "a:2-5s! b:0-1s")
	p.do(4, "b:1-3s! a:0-2s")
	p.do(4, "a:2-5s! b:0-1s")

	p = newPair(t, "a file of 64 blocks")
	p.put("f", 64)
	for n := range 64 {
		p.do(2, fmt.Sprintf("f:%d-%de%s", n, n+1, strings.Repeat("!", n/63)))
	}
	for n := range 32 {
		p.do(2, fmt.Sprintf("f:%d-%ds%s", 2*n, 2*n+2, strings.Repeat("!", n/31)))
	}
	p.do(126, "f:0-64s!")
}

// TestTickOfSeveralFiles: that are finished in one tick, in the order in which they
// were put, and then in that of their paths.
func TestTickOfSeveralFiles(t *testing.T) {
	p := newPair(t, "several files")
	for _, x := range []string{"d", "b", "a", "c"} {
		p.put(x, 3)
	}
	p.do(24, "d:0-3e! b:0-3e! a:0-3e! c:0-3e!")
	for range 3 {
		p.do(12, "a:0-3s! b:0-3s! c:0-3s! d:0-3s!")
	}
	p.do(10, "a:0-3s! b:0-3s! c:0-3s! d:0-1s")
	p.do(10, "d:1-3s! a:0-3s! b:0-3s! c:0-2s")
	p.do(10, "c:2-3s! a:0-3s! b:0-3s! d:0-3s!")
	p.do(2, "a:0-2s")
}

// TestTickOfManyFiles: that are all finished in one tick.
func TestTickOfManyFiles(t *testing.T) {
	for _, blocks := range []int{0, 1} {
		p := newPair(t, "many files")
		for i := range 400 {
			p.put(fmt.Sprint("f", (i*37)%400), blocks)
		}
		for range 3 {
			if n := len(p.tick(1000)); n != 400 {
				t.Errorf("P14.1: %d of 400 files of %d blocks are finished in one tick", n, blocks)
			}
		}
	}
}

// TestTickOfFilesWithoutBlocks: in either lane, also with nothing left.
func TestTickOfFilesWithoutBlocks(t *testing.T) {
	p := newPair(t, "no blocks at all")
	p.putAll(0, 0, 0)
	p.do(2, "a:0-0e! b:0-0e! c:0-0e!")
	p.do(2, "a:0-0s! b:0-0s! c:0-0s!")
	p.do(1000, "a:0-0s! b:0-0s! c:0-0s!")
	p.put("b", 0)
	p.do(2, "b:0-0e! a:0-0s! c:0-0s!")

	p = newPair(t, "files without blocks between others")
	p.putAll(1, 0, 0, 1, 0)
	p.do(2, "a:0-1e! b:0-0e! c:0-0e!")
	p.do(2, "d:0-1e! e:0-0e! a:0-1s! b:0-0s! c:0-0s!")
	p.do(2, "a:0-1s! b:0-0s! c:0-0s! d:0-1s! e:0-0s!")
	p.do(2, "a:0-1s! b:0-0s! c:0-0s! d:0-1s! e:0-0s!")

	p = newPair(t, "files without blocks behind longer ones")
	p.putAll(0, 2, 0, 3, 0)
	p.do(2, "a:0-0e! b:0-1e")
	p.do(2, "b:1-2e! c:0-0e! a:0-0s!")
	p.do(2, "d:0-1e a:0-0s! b:0-1s")
	p.do(4, "d:1-3e! e:0-0e! b:1-2s! c:0-0s! a:0-0s!")
	p.do(4, "a:0-0s! b:0-2s! c:0-0s! d:0-2s")
	p.do(2, "d:2-3s! e:0-0s! a:0-0s! b:0-1s")
	p.do(2, "b:1-2s! c:0-0s! a:0-0s! d:0-1s")
}

// TestTickThatEndsWithFile: where half of the budget, or all of it, is used to its
// end at a file's last block, the next one is not begun.
func TestTickThatEndsWithFile(t *testing.T) {
	p := newPair(t, "the budget's end is a file's end")
	p.putAll(2, 1, 3, 2)
	p.do(6, "a:0-2e! b:0-1e!")
	p.do(6, "c:0-3e! a:0-2s! b:0-1s!")
	p.do(6, "d:0-2e! a:0-2s! b:0-1s! c:0-1s")
	p.do(2, "c:1-3s!")
	p.do(4, "a:0-2s! b:0-1s! d:0-1s")
	p.do(2, "d:1-2s! c:0-1s")

	for n := 1; n <= 64; n++ {
		p := newPair(t, fmt.Sprint("files of ", n, " blocks"))
		p.putAll(n, n, n)
		p.do(2*n, fmt.Sprintf("a:0-%de!", n))
		p.do(2*n, fmt.Sprintf("b:0-%de! a:0-%ds!", n, n))
		p.do(2*n, fmt.Sprintf("c:0-%de! a:0-%ds!", n, n))
		p.do(2*n, fmt.Sprintf("b:0-%ds! a:0-%ds!", n, n))
		p.do(2*n, fmt.Sprintf("c:0-%ds! a:0-%ds!", n, n))
	}
}

// TestScrubLaneGetsWhatIsLeft: of all of the budget.
func TestScrubLaneGetsWhatIsLeft(t *testing.T) {
	for n := range 65 {
		for _, b := range []int{2, 4, 10, 62, 64, 66, 126, 128, 130} {
			p := newPair(t, fmt.Sprintf("%d blocks to be enrolled, budget %d", n, b))
			p.putAll(64, 64, 64)
			p.do(1000, "a:0-64e! b:0-64e! c:0-64e!")
			p.put("d", n)
			done := 0
			for _, w := range p.tick(b) {
				if !w.Enrol {
					done += w.To - w.From
				}
			}
			if want := b - min(n, b/2); done != want {
				t.Errorf("P14.1: %s: %d blocks are scrubbed instead of %d", p.what, done, want)
			}
		}
	}
}

// TestNoFileTwiceInTick: neither after its enrolment, nor after it is scrubbed.
func TestNoFileTwiceInTick(t *testing.T) {
	p := newPair(t, "few blocks")
	p.putAll(1, 0, 2)
	p.do(1000, "a:0-1e! b:0-0e! c:0-2e!")
	p.do(1000, "a:0-1s! b:0-0s! c:0-2s!")
	p.do(2, "a:0-1s! b:0-0s! c:0-1s")
	// The rest of c, and not its beginning as well.
	p.do(1000, "c:1-2s! a:0-1s! b:0-0s!")
	p.do(1000, "a:0-1s! b:0-0s! c:0-2s!")
	p.put("d", 3)
	p.do(2, "d:0-1e a:0-1s! b:0-0s!")
	p.do(1000, "d:1-3e! c:0-2s! a:0-1s! b:0-0s!")
}

// TestScrubLaneBeginsWithSmallestTick: whichever paths the files have.
func TestScrubLaneBeginsWithSmallestTick(t *testing.T) {
	p := newPair(t, "falling paths")
	p.put("z", 64)
	p.do(128, "z:0-64e!")
	for i, x := range []string{"d", "c", "b", "a"} {
		p.put(x, 10)
		p.do(20, fmt.Sprintf("%s:0-10e! z:%d-%ds", x, 10*i, 10*i+10))
	}
	p.do(44, "z:40-64s! d:0-10s! c:0-10s!")
	p.do(24, "b:0-10s! a:0-10s! c:0-4s")
	p.do(20, "c:4-10s! d:0-10s! z:0-4s")
	p.do(100, "z:4-64s! a:0-10s! b:0-10s! c:0-10s! d:0-10s!")

	p = newPair(t, "finished in equal and in different ticks")
	for _, x := range []string{"z", "y", "b", "x", "a"} {
		p.put(x, 2)
	}
	p.do(8, "z:0-2e! y:0-2e!")
	p.do(8, "b:0-2e! x:0-2e! y:0-2s! z:0-2s!")
	p.do(4, "a:0-2e! b:0-2s!")
	p.do(6, "x:0-2s! y:0-2s! z:0-2s!")
	p.do(4, "a:0-2s! b:0-2s!")
}

// TestBegunFileComesFirst: in the scrub lane, as no file has a smaller tick,
// whatever is put, finished or dropped meanwhile.
func TestBegunFileComesFirst(t *testing.T) {
	p := newPair(t, "a begun file")
	p.put("m", 20)
	p.put("n", 4)
	p.do(1000, "m:0-20e! n:0-4e!")
	p.do(4, "m:0-4s")
	p.put("a", 1)
	p.do(4, "a:0-1e! m:4-7s")
	p.drop("n")
	p.do(4, "m:7-11s")
	p.put("n", 3)
	p.put("b", 2)
	p.do(4, "n:0-2e m:11-13s")
	p.do(6, "n:2-3e! b:0-2e! m:13-16s")
	p.do(4, "m:16-20s!")
	p.do(4, "a:0-1s! b:0-2s! n:0-1s")
	p.do(20, "n:1-3s! m:0-18s")
}

// byteOrder are paths in increasing order.
var byteOrder = []string{
	"+", "-", ".a", "0", "10", "9", "A", "Z", "_", "a", "a+b", "a-b", "a.b", "a/B", "a/b", "a/b/c", "a/bc", "a0", "aA", "a_", "aa", "ab", "a~", "b", longest, "~",
}

// TestScrubLaneIsOrderedByBytes: where files were finished in the same tick.
func TestScrubLaneIsOrderedByBytes(t *testing.T) {
	if !slices.IsSorted(byteOrder) {
		t.Fatal("the paths are not in increasing order")
	}
	var want []lane.Work
	for _, x := range byteOrder {
		want = append(want, lane.Work{Path: x, To: 2, Done: true})
	}
	for shift := range byteOrder {
		for _, reversed := range []bool{false, true} {
			l := append(slices.Clone(byteOrder[shift:]), byteOrder[:shift]...)
			if reversed {
				slices.Reverse(l)
			}
			p := newPair(t, "ordered by bytes")
			for _, x := range l {
				p.put(x, 2)
			}
			p.tick(1000)
			for range 2 {
				if got := p.tick(1000); !slices.Equal(got, want) {
					t.Errorf("P14.1: put in order %q: %v are scrubbed", l, got)
				}
			}
		}
	}
}

// TestExample: a file without blocks is finished in the next tick.
func TestExample(t *testing.T) {
	l := lane.New()
	l.Put("a", 0)
	w, e := l.Tick(2)
	if !slices.Equal(w, []lane.Work{{Path: "a", Enrol: true, Done: true}}) || e != api.OK {
		t.Errorf("P14.1: Tick: %v, %d", w, e)
	}
	if n, e := l.Last("a"); n != 1 || e != api.OK {
		t.Errorf("P14.1: Last: %d, %d", n, e)
	}
}
