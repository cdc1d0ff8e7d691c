package sidecar_test

import (
	"bytes"
	"crypto/sha256"
	"math"
	"math/rand"
	"slices"
	"testing"

	"darner/api"
	"darner/shard"
	"darner/sidecar"
)

func checkMake(t *testing.T, what string, b []byte) {
	t.Helper()
	got, e := sidecar.Make(b)
	if want := sidecarOf(b); !bytes.Equal(got, want) || e != api.OK {
		t.Errorf("P12.1: Make of %d bytes (%s): %d bytes %.60x, error %d instead of %d bytes %.60x", len(b), what, len(got), got, e, len(want), want)
	}
	if n := sidecar.Len(len(b)); n != len(got) {
		t.Errorf("P12.1: Len(%d): %d, but Make returns %d bytes", len(b), n, len(got))
	}
}

func TestMake(t *testing.T) {
	for _, n := range sizes {
		checkMake(t, "any", content(n))
		checkMake(t, "zeros", make([]byte, n))
		checkMake(t, "all bits", bytes.Repeat([]byte{255}, n))
	}
	checkMake(t, "nil", nil)
	for n := range 2100 {
		if n%37 == 0 {
			checkMake(t, "any", content(n))
		}
	}
}

// TestMakeOfKnownBytes: by digests that are known.
func TestMakeOfKnownBytes(t *testing.T) {
	none := sha256.Sum256(nil)
	if got, e := sidecar.Make(nil); !bytes.Equal(got, none[:]) || e != api.OK {
		t.Errorf("P12.1: Make of no bytes: %x, error %d", got, e)
	}
	// With one block, the first parity block is the block, and the second one its
	// product with 1 / 2 (chapter 3).
	got, e := sidecar.Make([]byte{2})
	one, two := append([]byte{2}, make([]byte, 255)...), append([]byte{1}, make([]byte, 255)...)
	d := sha256.Sum256([]byte{2})
	if want := slices.Concat(d[:], sealed(one), sealed(two)); !bytes.Equal(got, want) || e != api.OK {
		t.Errorf("P12.1: Make of 02: %.300x, error %d", got, e)
	}
}

// TestMadeParity: by the code of chapter 4 itself.
func TestMadeParity(t *testing.T) {
	for _, n := range sizes {
		side, _ := sidecar.Make(content(n))
		if len(side) != lenOf(n) {
			t.Fatalf("P12.1: Make of %d bytes: %d bytes", n, len(side))
		}
		for i, stripe := range stripesOf(content(n)) {
			c, _ := shard.New(len(stripe), 2)
			var all [][]byte
			for _, block := range stripe {
				all = append(all, filled(block))
			}
			from := side[32+576*i:]
			all = append(all, from[:256], from[288:544])
			if e := c.Check(all); e != api.OK {
				t.Errorf("P12.1: Make of %d bytes: stripe %d: error %d of chapter 4", n, i, e)
			}
			for _, at := range []int{0, 288} {
				if d := sha256.Sum256(from[at : at+256]); !bytes.Equal(d[:], from[at+256:at+288]) {
					t.Errorf("P12.1: Make of %d bytes: stripe %d: another digest behind its parity", n, i)
				}
			}
		}
	}
}

func TestMakeOfTooManyBytes(t *testing.T) {
	for _, n := range []int{maxFile + 1, maxFile + 256, maxFile + 1024, 1 << 18, 1 << 20} {
		if got, e := sidecar.Make(make([]byte, n)); len(got) != 0 || e != api.ErrRange {
			t.Errorf("P12.1: Make of %d bytes: %d bytes, error %d", n, len(got), e)
		}
	}
}

func TestLen(t *testing.T) {
	for n, want := range map[int]int{
		0: 32, 1: 608, 2: 608, 255: 608, 256: 608, 257: 608, 512: 608, 513: 608, 768: 608, 769: 608, 1023: 608, 1024: 608,
		1025: 1184, 1280: 1184, 1281: 1184, 2048: 1184, 2049: 1760, maxFile - 1024: 32 + 15*576, maxFile - 1023: 32 + 16*576,
		maxFile: 32 + 16*576, maxFile + 1: 32 + 17*576, 1 << 20: 32 + 1024*576,
		-1: 32, -2: 32, -255: 32, -256: 32, -1023: 32, -1024: 32, -1025: 32, -maxFile: 32, math.MinInt + 1: 32, math.MinInt: 32,
		1 << 40: 32 + 1<<30*576, math.MaxInt - 1023: 32 + (1<<53-1)*576, math.MaxInt - 1022: 32 + (1<<53)*576, math.MaxInt: 32 + (1<<53)*576,
	} {
		if got := sidecar.Len(n); got != want {
			t.Errorf("P12.1: Len(%d): %d instead of %d", n, got, want)
		}
	}
}

func TestLenOfAllSizes(t *testing.T) {
	want := 32
	for n := range maxFile + 3000 {
		if n%1024 == 1 {
			want += 576
		}
		if got := sidecar.Len(n); got != want {
			t.Errorf("P12.1: Len(%d): %d instead of %d", n, got, want)
		}
	}
}

// TestLenIsThatOfMake: of bytes at all ends of blocks and stripes.
func TestLenIsThatOfMake(t *testing.T) {
	all := content(maxFile)
	for at := 0; at <= maxFile; at += 256 {
		for n := max(at-1, 0); n <= min(at+1, maxFile); n++ {
			got, e := sidecar.Make(all[:n])
			if len(got) != sidecar.Len(n) || e != api.OK {
				t.Errorf("P12.1: Len(%d): %d, but Make returns %d bytes, error %d", n, sidecar.Len(n), len(got), e)
			}
		}
	}
}

func checkStands(t *testing.T, what string, side []byte, size int, whole [32]byte, want []bool) {
	t.Helper()
	if got := sidecar.Stands(side, size, whole); !slices.Equal(got, want) {
		t.Errorf("P12.1: Stands of %d bytes for %d bytes (%s): %v instead of %v", len(side), size, what, got, want)
	}
}

// allBut returns n truths, of which only those of some numbers are false.
func allBut(n int, numbers ...int) []bool {
	l := slices.Repeat([]bool{true}, n)
	for _, i := range numbers {
		l[i] = false
	}
	return l
}

// count returns the number of parity blocks of bytes of a size.
func count(size int) int {
	return (lenOf(size) - 32) / 288
}

func TestStands(t *testing.T) {
	for _, n := range sizes {
		side := sidecarOf(content(n))
		whole := sha256.Sum256(content(n))
		all := count(n)
		none := make([]bool, all)
		checkStands(t, "as made", side, n, whole, allBut(all))
		for i := range 32 {
			other := bytes.Clone(side)
			other[i] ^= 1
			checkStands(t, "its digest changed", other, n, whole, none)
			another := whole
			another[i] ^= 128
			checkStands(t, "another digest", side, n, another, none)
			checkStands(t, "its digest changed to the other one", other, n, [32]byte(other), allBut(all))
		}
		checkStands(t, "no digest", side, n, [32]byte{}, none)
	}
}

// TestStandsOfChangedBlocks: each parity block in turn, and each digest behind
// one.
func TestStandsOfChangedBlocks(t *testing.T) {
	for _, n := range sizes {
		side := sidecarOf(content(n))
		whole := sha256.Sum256(content(n))
		all := count(n)
		for i := range all {
			for _, at := range []int{0, 1, 128, 254, 255, 256, 257, 270, 286, 287} {
				for _, mask := range []byte{1, 128, 255} {
					side[32+288*i+at] ^= mask
					checkStands(t, "a byte changed", side, n, whole, allBut(all, i))
					side[32+288*i+at] ^= mask
				}
			}
			checkStands(t, "another block with its digest", forged(side, i), n, whole, allBut(all))
		}
	}
	side := sidecarOf(content(300))
	for at := range side {
		side[at] ^= 2
		want := make([]bool, 2)
		if at >= 32 {
			want[1-(at-32)/288] = true
		}
		checkStands(t, "a byte changed", side, 300, sha256.Sum256(content(300)), want)
		side[at] ^= 2
	}
}

func TestStandsOfSeveralChangedBlocks(t *testing.T) {
	r := rand.New(rand.NewSource(1))
	for range 500 {
		n := sizes[r.Intn(len(sizes))]
		side := sidecarOf(content(n))
		whole := sha256.Sum256(content(n))
		for range r.Intn(8) {
			if n > 0 {
				side[32+r.Intn(len(side)-32)] ^= byte(r.Intn(256))
			}
		}
		checkStands(t, "bytes changed", side, n, whole, standsOf(side, n, whole))
	}
	side := sidecarOf(content(1400))
	exchanged := slices.Concat(side[:32], side[320:608], side[32:320], side[608:])
	checkStands(t, "parity blocks exchanged", exchanged, 1400, sha256.Sum256(content(1400)), allBut(4))
	for set := range 16 {
		checkStands(t, "parity blocks changed", spoiledParity(side, below(4, set)...), 1400, sha256.Sum256(content(1400)), allBut(4, below(4, set)...))
	}
}

// TestStandsOfOtherLengths: nothing of it is intact.
func TestStandsOfOtherLengths(t *testing.T) {
	for _, n := range sizes {
		side := sidecarOf(content(n))
		whole := sha256.Sum256(content(n))
		none := make([]bool, count(n))
		checkStands(t, "nil", nil, n, whole, none)
		checkStands(t, "empty", []byte{}, n, whole, none)
		for _, m := range []int{1, 31, 32, 33, 320, 607, 608, 609, len(side) - 576, len(side) - 288, len(side) - 32, len(side) - 1} {
			if m >= 0 && m < len(side) {
				checkStands(t, "shorter", side[:m], n, whole, none)
			}
		}
		for _, m := range []int{1, 2, 32, 256, 288, 576, 5000} {
			checkStands(t, "longer", append(bytes.Clone(side), make([]byte, m)...), n, whole, none)
			checkStands(t, "longer", append(bytes.Clone(side), side[:min(m, len(side))]...), n, whole, none)
		}
		checkStands(t, "a byte before it", append([]byte{0}, side...), n, whole, none)
	}
}

// TestStandsForOtherSizes: what matters is the length of the sidecar.
func TestStandsForOtherSizes(t *testing.T) {
	whole := sha256.Sum256(content(1400))
	side := sidecarOf(content(1400))
	for size := range 4000 {
		want := make([]bool, count(size))
		if size > 1024 && size <= 2048 {
			want = allBut(4)
		}
		checkStands(t, "for another size", side, size, whole, want)
	}
	checkStands(t, "for the greatest size", side, maxFile, whole, make([]bool, 32))
	for _, size := range []int{-1, -2, -256, -1024, -1025, -maxFile, math.MinInt, 0} {
		checkStands(t, "for no bytes", side, size, whole, nil)
		checkStands(t, "for no bytes", side[:32], size, whole, nil)
		checkStands(t, "for no bytes", nil, size, whole, nil)
	}
}

// TestStandsForGreatSizes: Make returns no sidecars of so many bytes, but the
// chapter defines them. A list of the parity blocks of more bytes than the program
// can be given need not fit into memory.
func TestStandsForGreatSizes(t *testing.T) {
	for _, n := range []int{maxFile + 1, maxFile + 1024, 40000} {
		side := sidecarOf(content(n))
		whole := sha256.Sum256(content(n))
		checkStands(t, "as defined", side, n, whole, allBut(count(n)))
		checkStands(t, "a block changed", spoiledParity(side, 33), n, whole, allBut(count(n), 33))
		checkStands(t, "shorter", side[:len(side)-1], n, whole, make([]bool, count(n)))
	}
	side := sidecarOf(content(300))
	whole := sha256.Sum256(content(300))
	checkStands(t, "for a great size", side, 1<<30, whole, make([]bool, 1<<21))
	for _, size := range []int{1 << 31, 1 << 40, math.MaxInt - 1023, math.MaxInt - 1, math.MaxInt} {
		if slices.Contains(sidecar.Stands(side, size, whole), true) {
			t.Errorf("P6, P12.1: Stands for %d bytes: a parity block is intact", size)
		}
	}
}
