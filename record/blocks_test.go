package record_test

import (
	"bytes"
	"math/rand"
	"slices"
	"testing"

	"darner/record"
)

// badOf is what Bad returns for the record of some bytes, by these bytes.
func badOf(recorded, b []byte) []int {
	var bad []int
	want, got := cut(recorded), cut(b)
	for i := range max(len(want), len(got)) {
		if i >= len(want) || i >= len(got) || !bytes.Equal(want[i], got[i]) {
			bad = append(bad, i)
		}
	}
	return bad
}

func checkBad(t *testing.T, what string, r record.Record, b []byte, want ...int) {
	t.Helper()
	if got := r.Bad(b); !slices.Equal(got, want) {
		t.Errorf("P10.1: Bad of %d bytes (%s): %v instead of %v", len(b), what, got, want)
	}
}

func checkFits(t *testing.T, what string, r record.Record, b []byte, want bool) {
	t.Helper()
	if got := r.Fits(b); got != want {
		t.Errorf("P10.1: Fits of %d bytes (%s): %t", len(b), what, got)
	}
}

// checkOther checks Bad and Fits, with the record of some bytes, of any bytes.
func checkOther(t *testing.T, what string, recorded, b []byte) {
	t.Helper()
	r := live("d/x", recorded, plain, version)
	checkBad(t, what, r, b, badOf(recorded, b)...)
	checkFits(t, what, r, b, bytes.Equal(recorded, b))
}

func TestCut(t *testing.T) {
	for n, want := range map[int][]int{
		0: nil, 1: {1}, 255: {255}, 256: {256}, 257: {256, 1}, 512: {256, 256}, 513: {256, 256, 1}, 600: {256, 256, 88},
		maxFile: slices.Repeat([]int{256}, 64), maxFile + 1: append(slices.Repeat([]int{256}, 64), 1),
	} {
		b := content(n)
		var lengths []int
		for _, block := range record.Cut(b) {
			lengths = append(lengths, len(block))
		}
		if !slices.Equal(lengths, want) || !bytes.Equal(slices.Concat(record.Cut(b)...), b) {
			t.Errorf("P10.1: Cut of %d bytes: blocks of %v bytes", n, lengths)
		}
	}
}

func TestCutOfAllSizes(t *testing.T) {
	all := content(1400)
	for n := range all {
		if got, want := record.Cut(all[:n]), cut(all[:n]); !slices.EqualFunc(got, want, bytes.Equal) {
			t.Errorf("P10.1: Cut of %d bytes: %d blocks", n, len(got))
		}
	}
}

func TestBadOfTheVeryBytes(t *testing.T) {
	for _, n := range sizes {
		checkBad(t, "the very bytes", sized(n), content(n))
		checkFits(t, "the very bytes", sized(n), content(n), true)
	}
}

// TestBadOfChangedBlocks: each one in turn, at both of its ends and within.
func TestBadOfChangedBlocks(t *testing.T) {
	for _, n := range sizes {
		r, b := sized(n), content(n)
		for i, block := range cut(b) {
			for _, at := range []int{0, len(block) / 2, len(block) - 1} {
				for _, mask := range []byte{1, 128, 255} {
					block[at] ^= mask
					checkBad(t, "a block changed", r, b, i)
					checkFits(t, "a block changed", r, b, false)
					block[at] ^= mask
				}
			}
		}
	}
}

func TestBadOfSeveralChangedBlocks(t *testing.T) {
	r := rand.New(rand.NewSource(1))
	for range 300 {
		recorded := content(sizes[r.Intn(len(sizes))])
		b := bytes.Clone(recorded)
		for range r.Intn(6) {
			if len(b) > 0 {
				b[r.Intn(len(b))] ^= byte(r.Intn(256))
			}
		}
		checkOther(t, "bytes changed", recorded, b)
	}
	b := content(1000)
	exchanged := slices.Concat(b[256:512], b[:256], b[512:])
	checkBad(t, "blocks exchanged", sized(1000), exchanged, 0, 1)
	slices.Reverse(b)
	checkBad(t, "all changed", sized(1000), b, 0, 1, 2, 3)
}

// TestBadOfShorterBytes: blocks are missing, or the last one is shorter.
func TestBadOfShorterBytes(t *testing.T) {
	recorded := content(600)
	for n := range recorded {
		checkOther(t, "shorter", recorded, recorded[:n])
	}
	r := sized(600)
	checkBad(t, "a byte less", r, recorded[:599], 2)
	checkBad(t, "a block less", r, recorded[:512], 2)
	checkBad(t, "a block and a byte less", r, recorded[:511], 1, 2)
	checkBad(t, "none", r, nil, 0, 1, 2)
	checkBad(t, "none", r, []byte{}, 0, 1, 2)
	for _, n := range []int{maxFile - 1, maxFile - 256, maxFile - 257, 1, 0} {
		checkOther(t, "shorter than a file of the greatest size", content(maxFile), content(maxFile)[:n])
	}
}

// TestBadOfLongerBytes: the last block has additional bytes, or there are blocks
// beyond it.
func TestBadOfLongerBytes(t *testing.T) {
	all := content(2000)
	for _, n := range []int{0, 1, 255, 256, 257, 512, 600} {
		for more := 1; n+more < 1400; more++ {
			checkOther(t, "longer", all[:n], all[:n+more])
			checkOther(t, "longer by zeros", all[:n], append(bytes.Clone(all[:n]), make([]byte, more)...))
		}
	}
	r := live("x", all[:600], plain, version)
	checkBad(t, "a byte more", r, all[:601], 2)
	checkBad(t, "a complete last block", r, all[:768], 2)
	checkBad(t, "a byte beyond it", r, all[:769], 2, 3)
	checkBad(t, "two blocks beyond it", r, all[:1100], 2, 3, 4)
	r = live("x", all[:512], plain, version)
	checkBad(t, "a byte beyond a complete block", r, all[:513], 2)
	checkBad(t, "much more than MaxFile bytes", live("x", nil, plain, version), make([]byte, 3*maxFile), count(192)...)
}

// count returns the numbers from 0 to n-1.
func count(n int) []int {
	var l []int
	for i := range n {
		l = append(l, i)
	}
	return l
}

// TestBadWithAnotherSize: of a valid record whose digests are not those of so
// many bytes.
func TestBadWithAnotherSize(t *testing.T) {
	for size := 513; size <= 768; size++ {
		r := sized(600)
		r.Stamp.Size = size
		if !r.Good() {
			t.Fatalf("P10.1: Good with Size %d of 3 digests: false", size)
		}
		var want []int
		if size < 600 {
			want = []int{2} // It has additional bytes.
		}
		checkBad(t, "with another Size", r, content(600), want...)
		checkFits(t, "with another Size", r, content(600), size == 600)
		checkFits(t, "as many as another Size", r, content(768)[:size], false)
	}
}

func TestBadWithAnotherDigest(t *testing.T) {
	b := content(1000)
	for i := range 32 {
		r := sized(1000)
		r.Whole[i] ^= 1
		checkBad(t, "with another Whole", r, b)
		checkFits(t, "with another Whole", r, b, false)
		for k := range r.Blocks {
			r := sized(1000)
			r.Blocks[k][i] ^= 128
			checkBad(t, "with another digest", r, b, k)
			checkFits(t, "with another digest", r, b, false)
		}
	}
	r := sized(600)
	r.Whole = sized(600).Blocks[0]
	checkFits(t, "with a block's digest as Whole", r, content(600), false)
}

// TestBadOfDeletedFiles: it has no blocks; nothing fits it.
func TestBadOfDeletedFiles(t *testing.T) {
	r := dead("x", plain, version)
	for _, n := range append([]int{3, 256, 300}, sizes...) {
		checkBad(t, "of a deleted file", r, content(n), count((n+255)/256)...)
		checkFits(t, "of a deleted file", r, content(n), false)
	}
	checkFits(t, "of a deleted file", r, nil, false)
	r.Whole = sized(0).Whole
	checkFits(t, "of a deleted file with a digest", r, nil, false)
	checkFits(t, "of a file without bytes", sized(0), nil, true)
	checkFits(t, "of a file without bytes", sized(0), []byte{}, true)
}

// TestBadOfInvalidRecords: nothing is promised but that it ends. The numbers of
// blocks are those of the bytes, or of the record.
func TestBadOfInvalidRecords(t *testing.T) {
	lists := [][]byte{nil, content(1), content(256), content(600), content(maxFile + 1)}
	for _, c := range allVariants() {
		if c.valid {
			continue
		}
		for _, b := range lists {
			c.r.Fits(b)
			bad := c.r.Bad(b)
			if !slices.IsSorted(bad) || len(bad) > max(len(cut(b)), len(c.r.Blocks)) {
				t.Errorf("P6: Bad of %d bytes (%s): %v", len(b), c.what, bad)
			}
		}
	}
}
