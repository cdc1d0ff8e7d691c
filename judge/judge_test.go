package judge_test

import (
	"fmt"
	"math"
	"slices"
	"strings"
	"testing"

	"darner/disk"
	"darner/judge"
	"darner/record"
	"darner/vector"
)

func TestKinds(t *testing.T) {
	if len(kinds) != 9 {
		t.Fatal("there are nine kinds")
	}
	for i, k := range kinds {
		if int(k) != i {
			t.Errorf("P13.1: the kind %s has number %d instead of %d", kindNames[i], k, i)
		}
	}
}

// TestJudgeOfEachKind: those that the same bytes have with and without a record,
// a file, and its stamp.
func TestJudgeOfEachKind(t *testing.T) {
	for _, n := range sizes {
		w := newWorld()
		b, what := content(n), fmt.Sprint(n, " bytes")
		w.check(t, what, "d/f", judge.None)
		s := w.write("d/f", b)
		w.check(t, what, "d/f", judge.New)
		w.record("d/f", b, s)
		w.check(t, what, "d/f", judge.Clean)
		w.write("d/f", b)
		w.check(t, what, "d/f", judge.Touched)
		w.write("d/f", content(n+1))
		w.check(t, what, "d/f", judge.Edit)
		must(w.d.Remove("d/f"))
		w.check(t, what, "d/f", judge.Missing)
		w.recordGone("d/f", s)
		w.check(t, what, "d/f", judge.Gone)
		s = w.write("d/f", b)
		w.check(t, what, "d/f", judge.Reborn)
		w.drop("d/f")
		w.check(t, what, "d/f", judge.New)
		w.record("d/f", b, s)
		for i := range (n + 255) / 256 {
			w.rot("d/f", i)
			w.check(t, what, "d/f", judge.Rot, i)
			w.rot("d/f", i)
			w.check(t, what+", rotted twice", "d/f", judge.Clean)
		}
		must(w.d.Remove("d/f"))
		w.drop("d/f")
		w.check(t, what, "d/f", judge.None)
	}
}

// TestJudgeByStamp: one that differs in none, in each and in several of its parts,
// with the same bytes and with other bytes.
func TestJudgeByStamp(t *testing.T) {
	for _, n := range []int{1, 255, 257, 600, maxFile - 1} {
		for _, time := range []int{70, 69, 71, 0, math.MaxInt} {
			for _, change := range []int{3, 2, 4, 0, 1, math.MaxInt} {
				for _, size := range []int{n, n - 1, n + 1} {
					for bit := range 9 { // With bit 8, the bytes are the same.
						checkStamp(t, n, disk.Stamp{Size: size, Time: time, Change: change}, byte(1<<bit))
					}
				}
			}
		}
	}
}

// checkStamp checks the kind of a file of n bytes whose stamp is {n, 70, 3}, by a
// record with another stamp, and of bytes to whose last byte a mask is added.
func checkStamp(t *testing.T, n int, s disk.Stamp, mask byte) {
	t.Helper()
	w := newWorld()
	w.write("x", nil)
	w.write("p", nil)
	if got := w.write("p", content(n)); got != (disk.Stamp{Size: n, Time: 70, Change: 3}) {
		t.Fatalf("the file's stamp is %v", got)
	}
	b := content(n)
	b[n-1] ^= mask
	r, e := record.Of("p", b, s, vector.Vector{1})
	must(e)
	// What Of makes has the Size of its bytes. The other ones have as many blocks.
	r.Stamp.Size = s.Size
	if len(r.Blocks) != (s.Size+255)/256 {
		return
	}
	must(w.a.Set(r))
	what := fmt.Sprintf("%d bytes, stamp %v, mask %d", n, s, mask)
	sameStamp := s == disk.Stamp{Size: n, Time: 70, Change: 3}
	switch {
	case sameStamp && mask == 0:
		w.check(t, what, "p", judge.Clean)
	case sameStamp:
		w.check(t, what, "p", judge.Rot, (n-1)/256)
	case mask == 0 && s.Size == n:
		w.check(t, what, "p", judge.Touched)
	default:
		w.check(t, what, "p", judge.Edit)
	}
}

// TestJudgeOfOtherLengths: bytes that are shorter or longer than the record's Size
// have a different stamp; so they are no Rot, and none of their blocks is named.
func TestJudgeOfOtherLengths(t *testing.T) {
	for _, n := range sizes {
		for _, other := range append(sizes, maxFile+1, maxFile+256, 1<<18) {
			w := newWorld()
			s := w.write("p", content(max(n, other))[:other])
			w.record("p", content(max(n, other))[:n], s)
			kind := judge.Edit
			if n == other {
				kind = judge.Clean
			}
			w.check(t, fmt.Sprint(other, " bytes, ", n, " recorded"), "p", kind)
		}
	}
}

// TestJudgeOfLongFiles: of more bytes than can be recorded.
func TestJudgeOfLongFiles(t *testing.T) {
	for _, n := range []int{maxFile + 1, 1 << 18} {
		w := newWorld()
		s := w.write("p", content(n))
		w.check(t, fmt.Sprint(n, " bytes"), "p", judge.New)
		w.recordGone("p", s)
		w.check(t, fmt.Sprint(n, " bytes"), "p", judge.Reborn)
		w.record("p", content(n)[:maxFile], s)
		w.check(t, fmt.Sprint(n, " bytes"), "p", judge.Edit)
	}
}

// TestJudgeOfEachBlock: of each that has rotted, at both of its ends and within.
func TestJudgeOfEachBlock(t *testing.T) {
	for _, n := range sizes {
		w := newWorld()
		w.keep("p", content(n))
		for i := 0; 256*i < n; i++ {
			to := min(256*i+256, n)
			for _, at := range []int{256 * i, (256*i + to) / 2, to - 1} {
				for _, mask := range []byte{1, 128, 255} {
					must(w.d.Rot("p", at, mask))
					w.check(t, fmt.Sprintf("byte %d of %d rotted", at, n), "p", judge.Rot, i)
					must(w.d.Rot("p", at, mask))
				}
			}
		}
		w.check(t, "rotted twice everywhere", "p", judge.Clean)
	}
}

// edited has the kind of a file after its bytes are written once more.
var edited = map[judge.Kind]judge.Kind{judge.Clean: judge.Touched, judge.Rot: judge.Edit}

// TestJudgeOfEachSetOfBlocks: of all sets of a file's blocks.
func TestJudgeOfEachSetOfBlocks(t *testing.T) {
	for _, n := range []int{1, 256, 257, 600, 1024, 1300, 1700} {
		count := (n + 255) / 256
		for set := range 1 << count {
			w := newWorld()
			w.keep("p", content(n))
			var blocks []int
			for i := range count {
				if set>>i&1 == 1 {
					blocks = append(blocks, i)
				}
			}
			w.rot("p", blocks...)
			kind := judge.Rot
			if set == 0 {
				kind = judge.Clean
			}
			w.check(t, fmt.Sprint(n, " bytes"), "p", kind, blocks...)
			// The same bytes with another stamp.
			b, _ := w.d.Read("p")
			w.write("p", b)
			w.check(t, fmt.Sprint(n, " bytes, blocks ", blocks), "p", edited[kind])
		}
	}
}

// TestJudgeOfAllBlocks: of a greatest file.
func TestJudgeOfAllBlocks(t *testing.T) {
	w := newWorld()
	w.keep("p", content(maxFile))
	var blocks []int
	for i := range 64 {
		w.rot("p", 63-i)
		blocks = slices.Insert(blocks, 0, 63-i)
		w.check(t, "the last blocks rotted", "p", judge.Rot, blocks...)
	}
	must(w.d.Rot("p", 256*7, 1))
	w.check(t, "all blocks but one rotted", "p", judge.Rot, slices.Delete(blocks, 7, 8)...)
	must(w.d.Rot("p", 0, 0))
	w.check(t, "nothing more rotted", "p", judge.Rot, blocks[:63]...)
}

// TestJudgeOfUnsoundRecords: they are valid, but no bytes have all of their
// digests.
func TestJudgeOfUnsoundRecords(t *testing.T) {
	for _, n := range sizes {
		w := newWorld()
		w.keep("p", content(n))
		r, _ := w.a.Get("p")
		r.Whole[31] ^= 1
		must(w.a.Set(r))
		w.check(t, "another digest of all bytes", "p", judge.Rot)
		w.write("p", content(n))
		w.check(t, "another digest of all bytes, another stamp", "p", judge.Edit)
	}
	w := newWorld()
	w.keep("p", content(700))
	r, _ := w.a.Get("p")
	r.Blocks[1] = [32]byte{}
	must(w.a.Set(r))
	w.check(t, "another digest of a block", "p", judge.Rot, 1)
	w.write("p", content(700))
	w.check(t, "another digest of a block, another stamp", "p", judge.Edit)
}

// TestJudgeOfDeletedFiles: whatever the stamp and the bytes are.
func TestJudgeOfDeletedFiles(t *testing.T) {
	for _, n := range sizes {
		w := newWorld()
		s := w.write("p", content(n))
		for _, recorded := range []disk.Stamp{s, {}, {Time: s.Time, Change: s.Change}, {Time: 5, Change: math.MaxInt}} {
			w.recordGone("p", recorded)
			w.recordGone("q", recorded)
			w.check(t, fmt.Sprint("recorded as deleted, ", n, " bytes"), "p", judge.Reborn)
			w.check(t, "recorded as deleted", "q", judge.Gone)
		}
		if n > 0 {
			w.rot("p", 0)
			w.check(t, fmt.Sprint("recorded as deleted and rotted, ", n, " bytes"), "p", judge.Reborn)
		}
	}
}

// TestJudgeOfAnyStrings: those that are no path, and paths where there is nothing.
func TestJudgeOfAnyStrings(t *testing.T) {
	empty, w := newWorld(), newWorld()
	for _, p := range []string{"a", "b", "c/d"} {
		w.keep(p, content(300))
	}
	for _, p := range []string{
		"", "/", "//", "/a", "a/", "b/", "a//b", ".", "..", "./a", "a/.", "a/..", "c/./d", "c/../a", "c", "c/", "c/d/", "a b", " a", "a ", "a\x00", "\x00", "A", "a\n", "a*", "\xff", "ä", "\u2028",
		strings.Repeat("a", 101), strings.Repeat("a", 1<<16), strings.Repeat("/", 100), strings.Repeat("long/", 20), "nothing", "c/e", "c/d/e",
	} {
		for _, x := range []*world{empty, w} {
			x.check(t, "there is none", p, judge.None)
		}
	}
}

// TestJudgeOfOtherKindsOfPaths: temp paths, those of sidecars, and those of an
// archive's copies have no record.
func TestJudgeOfOtherKindsOfPaths(t *testing.T) {
	for _, p := range []string{
		".tmp~", ".tmp~x", "d/.tmp~x", ".par~", ".par~x", "d/e/.par~x", "d/.par~archive.0", ".par~archive.0", ".par~archive.1",
	} {
		w := newWorld()
		w.keep("x", content(300))
		w.check(t, "missing", p, judge.None)
		w.write(p, content(300))
		w.check(t, "present", p, judge.New)
		must(w.d.Rot(p, 0, 1))
		w.check(t, "rotted", p, judge.New)
		must(w.d.Rename("x", p))
		w.check(t, "a file that was recorded", p, judge.New)
		must(w.d.Remove(p))
		w.check(t, "removed", p, judge.None)
	}
	w := newWorld()
	w.keep("x", nil)
	must(w.a.Save(w.d, 1))
	w.check(t, "saved", ".par~archive.0", judge.New)
	w.check(t, "saved", ".par~archive.1", judge.New)
}

// TestJudgeOfFilesWithLikePaths: those whose last name only looks like that of a
// temp path or a sidecar, and the longest ones.
func TestJudgeOfFilesWithLikePaths(t *testing.T) {
	for _, p := range []string{
		".tmp~d/x", ".par~d/x", ".tmp", ".par", "tmp~x", "x.tmp~", ".Par~x", "conflict~0~" + strings.Repeat("0", 64), strings.Repeat("long/", 19) + "paths", strings.Repeat("a", 100),
	} {
		w := newWorld()
		w.keep(p, content(600))
		w.check(t, "kept", p, judge.Clean)
		w.rot(p, 1)
		w.check(t, "rotted", p, judge.Rot, 1)
		w.checkSweep(t, "rotted", []judge.Verdict{{Path: p, Kind: judge.Rot, Bad: []int{1}}})
	}
}
