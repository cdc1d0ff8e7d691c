package sidecar_test

import (
	"bytes"
	"crypto/sha256"
	"fmt"
	"math"
	"math/rand"
	"slices"
	"testing"

	"darner/api"
	"darner/disk"
	"darner/record"
	"darner/sidecar"
	"darner/vector"
)

// checkMended checks a Mend without an error.
func checkMended(t *testing.T, what string, r record.Record, b, side []byte, want mended) {
	t.Helper()
	got, repaired, left, e := sidecar.Mend(r, b, side)
	if !slices.Equal(repaired, want.repaired) || !slices.Equal(left, want.left) || e != api.OK {
		t.Errorf("P12.1, P12.2: Mend of %d bytes (%s): repaired %v, still bad %v, error %d instead of %v, %v", len(b), what, repaired, left, e, want.repaired, want.left)
	}
	if !bytes.Equal(got, want.b) {
		t.Errorf("P12.1, P12.2: Mend of %d bytes (%s): other bytes, of blocks %v", len(b), what, differing(got, want.b))
	}
}

// checkMend checks a Mend by the model.
func checkMend(t *testing.T, what string, r record.Record, b, side []byte) {
	t.Helper()
	checkMended(t, what, r, b, side, mendOf(r, b, side))
}

// checkDamage checks a Mend of what was damaged: bytes that fitted the record, and
// the parity blocks of their sidecar. It compares with these bytes alone.
func checkDamage(t *testing.T, n int, blocks, parity []int) {
	t.Helper()
	b := content(n)
	spoilt := spoiled(b, blocks...)
	want := mended{b: bytes.Clone(b)}
	for _, i := range blocks {
		inStripe := func(k int) bool { return k/4 == i/4 }
		parityInStripe := func(k int) bool { return k/2 == i/4 }
		if number(blocks, inStripe)+number(parity, parityInStripe) <= 2 {
			want.repaired = append(want.repaired, i)
		} else {
			want.left = append(want.left, i)
			copy(want.b[256*i:min(256*i+256, n)], spoilt[256*i:])
		}
	}
	what := fmt.Sprint("blocks ", blocks, " and parity blocks ", parity, " damaged")
	checkMended(t, what, recordOf(b), spoilt, spoiledParity(sidecarOf(b), parity...), want)
}

// number returns how many of a list something holds for.
func number(l []int, holds func(i int) bool) int {
	n := 0
	for _, i := range l {
		if holds(i) {
			n++
		}
	}
	return n
}

// differing returns the numbers of the blocks that differ.
func differing(a, b []byte) []int {
	var l []int
	for i := 0; 256*i < max(len(a), len(b)); i++ {
		from, to := 256*i, 256*i+256
		if !bytes.Equal(a[min(from, len(a)):min(to, len(a))], b[min(from, len(b)):min(to, len(b))]) {
			l = append(l, i)
		}
	}
	return l
}

func TestMendOfNoDamage(t *testing.T) {
	for _, n := range sizes {
		checkDamage(t, n, nil, nil)
		r, b := recordOf(content(n)), content(n)
		for what, side := range map[string][]byte{
			"without a sidecar": nil, "with that of other bytes": sidecarOf(content(n + 7)), "with one of zeros": make([]byte, lenOf(n)),
		} {
			checkMended(t, what, r, b, side, mended{b: b})
		}
	}
}

// TestMendOfEachBlock: changed at both of its ends and within.
func TestMendOfEachBlock(t *testing.T) {
	for _, n := range sizes {
		r, b, side := recordOf(content(n)), content(n), sidecarOf(content(n))
		for i, block := range blocksOf(b) {
			for _, at := range []int{0, len(block) / 2, len(block) - 1} {
				b[256*i+at] ^= 129
				checkMended(t, "a block damaged", r, b, side, mended{b: content(n), repaired: []int{i}})
				b[256*i+at] ^= 129
			}
			clear(b[256*i : 256*i+len(block)])
			checkMended(t, "a block of zeros", r, b, side, mended{b: content(n), repaired: []int{i}})
			copy(b[256*i:], block)
		}
	}
}

// TestMendOfPairs: each pair of blocks, of one stripe and of two.
func TestMendOfPairs(t *testing.T) {
	for _, n := range []int{257, 512, 513, 600, 768, 769, 1023, 1024, 1025, 1280, 1281, 1400, 1793, 2048, 2049} {
		for i := range blocksOf(content(n)) {
			for k := range i {
				checkDamage(t, n, []int{k, i}, nil)
			}
		}
	}
	for i := range 64 {
		checkDamage(t, maxFile, slices.Compact([]int{min(i, 63-i), max(i, 63-i)}), nil)
	}
}

// TestMendOfEachDamage: all sets of damaged blocks of a stripe, with parity
// blocks; of one of 1, 2, 3 and 4 blocks, of which the last one may be shorter.
func TestMendOfEachDamage(t *testing.T) {
	for _, n := range []int{1, 100, 255, 256, 257, 511, 512, 513, 700, 768, 769, 1000, 1023, 1024} {
		count := len(blocksOf(content(n)))
		for set := range 1 << count {
			for paritySet := range 4 {
				checkDamage(t, n, below(count, set), below(2, paritySet))
				// The same of the last stripe behind a complete one.
				var blocks, parity []int
				for _, i := range below(count, set) {
					blocks = append(blocks, i+4)
				}
				for _, i := range below(2, paritySet) {
					parity = append(parity, i+2)
				}
				checkDamage(t, n+1024, blocks, parity)
			}
		}
	}
}

// TestMendOfEachDamageOfStripes: all sets of damaged blocks of two stripes.
func TestMendOfEachDamageOfStripes(t *testing.T) {
	for set := range 1 << 6 {
		for paritySet := range 1 << 4 {
			checkDamage(t, 1400, below(6, set), below(4, paritySet))
		}
	}
}

// TestMendOfMuchDamage: in any blocks of any stripes.
func TestMendOfMuchDamage(t *testing.T) {
	r := rand.New(rand.NewSource(2))
	for range 200 {
		n := sizes[r.Intn(len(sizes))]
		var blocks, parity []int
		odds := 1 + r.Intn(6)
		for i := range blocksOf(content(n)) {
			if r.Intn(odds) == 0 {
				blocks = append(blocks, i)
			}
		}
		for i := range count(n) {
			if r.Intn(1+r.Intn(10)) == 0 && odds > 1 {
				parity = append(parity, i)
			}
		}
		checkDamage(t, n, blocks, parity)
	}
	for _, n := range sizes {
		all := len(blocksOf(content(n)))
		checkDamage(t, n, below(min(all, 60), -1), nil)
		checkDamage(t, n, below(min(all, 60), -1), below(count(n), -1))
	}
}

// TestMendOfDamagedDigests: a parity block whose digest is damaged is not intact
// either.
func TestMendOfDamagedDigests(t *testing.T) {
	b := content(1400)
	r, side := recordOf(b), sidecarOf(b)
	for i := range 4 {
		for _, at := range []int{256, 287} {
			spoilt := bytes.Clone(side)
			spoilt[32+288*i+at] ^= 1
			checkMend(t, "a digest damaged", r, spoiled(b, 1, 2, 4, 5), spoilt)
			want := mended{b: spoiled(b, 1, 2), repaired: []int{4, 5}, left: []int{1, 2}}
			if i >= 2 {
				want = mended{b: spoiled(b, 4, 5), repaired: []int{1, 2}, left: []int{4, 5}}
			}
			checkMended(t, "a digest damaged", r, spoiled(b, 1, 2, 4, 5), spoilt, want)
			checkMended(t, "a digest damaged", r, spoiled(b, 1, 4), spoilt, mended{b: b, repaired: []int{1, 4}})
		}
	}
	for i := range 32 {
		spoilt := bytes.Clone(side)
		spoilt[i] ^= 64
		checkMended(t, "the sidecar's digest damaged", r, spoiled(b, 3), spoilt, mended{b: spoiled(b, 3), left: []int{3}})
	}
}

// TestMendOfShorterBytes: the missing ones are zeros.
func TestMendOfShorterBytes(t *testing.T) {
	for _, n := range []int{1, 256, 257, 600, 1024, 1025, 1400, 2048} {
		r, b, side := recordOf(content(n)), content(n), sidecarOf(content(n))
		for m := 0; m < n; m += 1 + m%29 {
			checkMend(t, "shorter", r, b[:m], side)
			checkMend(t, "shorter, without a sidecar", r, b[:m], nil)
		}
		checkMend(t, "a byte less", r, b[:n-1], side)
	}
	b := content(1400)
	r, side := recordOf(b), sidecarOf(b)
	checkMended(t, "a byte less", r, b[:1399], side, mended{b: b, repaired: []int{5}})
	checkMended(t, "two blocks less", r, b[:1024], side, mended{b: b, repaired: []int{4, 5}})
	checkMended(t, "three blocks less", r, b[:1023], side, mended{b: b, repaired: []int{3, 4, 5}})
	less := append(bytes.Clone(b[:512]), make([]byte, 888)...)
	checkMended(t, "four blocks less", r, b[:512], side, mended{b: b, repaired: []int{2, 3, 4, 5}})
	checkMended(t, "four blocks less, without a sidecar", r, b[:512], nil, mended{b: less, left: []int{2, 3, 4, 5}})
	less = slices.Concat(b[:256], make([]byte, 768), b[1024:])
	checkMended(t, "five blocks less", r, b[:256], side, mended{b: less, repaired: []int{4, 5}, left: []int{1, 2, 3}})
	zeros := append(content(300), make([]byte, 700)...)
	for _, m := range []int{300, 301, 512, 600, 999} {
		checkMended(t, "shorter by zeros", recordOf(zeros), zeros[:m], nil, mended{b: zeros})
	}
	checkMended(t, "none of zeros", recordOf(make([]byte, 3000)), nil, nil, mended{b: make([]byte, 3000)})
}

// TestMendOfLongerBytes: those beyond the Size are cut off.
func TestMendOfLongerBytes(t *testing.T) {
	all := content(2 * maxFile)
	for _, n := range sizes {
		r, side := recordOf(all[:n]), sidecarOf(all[:n])
		for _, more := range []int{1, 2, 200, 256, 257, 1024, 1025, maxFile} {
			checkMended(t, "longer", r, all[:n+more], side, mended{b: all[:n]})
			checkMended(t, "longer, without a sidecar", r, all[:n+more], nil, mended{b: all[:n]})
			checkMended(t, "longer by zeros", r, append(bytes.Clone(all[:n]), make([]byte, more)...), nil, mended{b: all[:n]})
			if n > 0 {
				last := (n - 1) / 256
				spoilt := slices.Concat(spoiled(all[:n], last), all[n:n+more])
				checkMended(t, "longer, a block damaged", r, spoilt, side, mended{b: all[:n], repaired: []int{last}})
			}
		}
	}
}

// TestMendWithOtherDigests: a decoded block that has not the record's digest is
// left as it was.
func TestMendWithOtherDigests(t *testing.T) {
	for _, n := range []int{1, 256, 300, 600, 1024, 1400, 2048} {
		b, side := content(n), sidecarOf(content(n))
		for i := range blocksOf(b) {
			r := recordOf(b)
			r.Blocks[i][9] ^= 1
			checkMended(t, "another digest of a block", r, b, side, mended{b: b, left: []int{i}})
			checkMended(t, "another digest of a damaged block", r, spoiled(b, i), side, mended{b: spoiled(b, i), left: []int{i}})
			for k := range blocksOf(b) {
				want := mended{b: b, repaired: []int{k}, left: []int{i}}
				if k == i {
					continue
				}
				checkMended(t, "another digest beside a damaged block", r, spoiled(b, k), side, want)
				// Their own stripe decodes only one of the two.
				want.b = spoiled(b, i)
				checkMended(t, "another digest of one of two damaged blocks", r, spoiled(b, i, k), side, want)
			}
			r = recordOf(b)
			r.Whole[5] ^= 1
			checkMended(t, "another Whole", r, spoiled(b, i), side, mended{b: spoiled(b, i), left: []int{i}})
			checkMended(t, "another Whole, nothing damaged", r, b, side, mended{b: b})
		}
	}
}

// TestMendWithForgedParity: what is used are the blocks that are not bad, then the
// first parity blocks. What they decode to may have another digest.
func TestMendWithForgedParity(t *testing.T) {
	for _, n := range []int{1, 256, 300, 600, 800, 1024} {
		b := content(n)
		r, side := recordOf(b), sidecarOf(b)
		for i := range blocksOf(b) {
			spoilt := spoiled(b, i)
			checkMended(t, "the first parity block forged", r, spoilt, forged(side, 0), mended{b: spoilt, left: []int{i}})
			checkMended(t, "the second parity block forged", r, spoilt, forged(side, 1), mended{b: b, repaired: []int{i}})
			both := forged(spoiledParity(side, 0), 1)
			checkMended(t, "the first parity block damaged, the second one forged", r, spoilt, both, mended{b: spoilt, left: []int{i}})
			both = forged(spoiledParity(side, 1), 0)
			checkMended(t, "the second parity block damaged, the first one forged", r, spoilt, both, mended{b: spoilt, left: []int{i}})
			for k := range i {
				spoilt := spoiled(b, k, i)
				for _, row := range []int{0, 1} {
					checkMend(t, "two blocks damaged, a parity block forged", r, spoilt, forged(side, row))
				}
			}
		}
	}
}

// TestMendWithRecordsOfOtherBytes: of as many bytes; the sidecar has their digest,
// or that of the bytes.
func TestMendWithRecordsOfOtherBytes(t *testing.T) {
	for _, n := range []int{1, 256, 300, 600, 1024, 1400} {
		b := content(n)
		other := bytes.Clone(b)
		for i := range other {
			other[i] ^= 85
		}
		all := below((n+255)/256, -1)
		checkMended(t, "of other bytes", recordOf(other), b, sidecarOf(b), mended{b: b, left: all})
		checkMend(t, "of other bytes, with their sidecar", recordOf(other), b, sidecarOf(other))
		side := slices.Concat(sidecarOf(other)[:32], sidecarOf(b)[32:])
		checkMended(t, "of other bytes, with parity of the bytes", recordOf(other), b, side, mended{b: b, left: all})
		// Digests of both: blocks of the bytes are taken for intact.
		r := recordOf(other)
		for i := range r.Blocks {
			if i%3 != 1 {
				r.Blocks[i] = recordOf(b).Blocks[i]
			}
		}
		for _, side := range [][]byte{sidecarOf(other), side} {
			for i := range all {
				checkMend(t, "with digests of both", r, spoiled(b, i), side)
				checkMend(t, "with digests of both", r, spoiled(other, i), side)
			}
		}
	}
}

// TestMendWithAnotherSize: of a valid record whose digests are not those of so many
// bytes.
func TestMendWithAnotherSize(t *testing.T) {
	b := content(1400)
	for _, size := range []int{1281, 1282, 1399, 1401, 1500, 1536} {
		r := recordOf(b)
		r.Stamp.Size = size
		if !r.Good() {
			t.Fatalf("P10.1: Good with Size %d of 6 digests: false", size)
		}
		checkMend(t, "with another Size", r, b, sidecarOf(b))
		checkMend(t, "with another Size", r, spoiled(b, 4), sidecarOf(b))
		checkMend(t, "with another Size", r, spoiled(b, 0, 4, 5), sidecarOf(b))
	}
}

func TestMendWithOtherSidecars(t *testing.T) {
	for _, n := range []int{1, 256, 600, 1024, 1400, 2048, maxFile} {
		b, side := content(n), sidecarOf(content(n))
		r, spoilt := recordOf(b), spoiled(b, 0)
		left := mended{b: spoilt, left: []int{0}}
		other := bytes.Clone(b)
		other[n-1] ^= 1
		for what, s := range map[string][]byte{
			"nil": nil, "empty": {}, "of other bytes": sidecarOf(other), "of more bytes": sidecarOf(content(n + 1024)),
			"of no bytes": sidecarOf(nil), "of the damaged bytes": sidecarOf(spoilt), "zeros": make([]byte, len(side)),
			"a byte less": side[:len(side)-1], "a byte more": append(bytes.Clone(side), 0), "a byte before": append([]byte{0}, side...),
			"a stripe less": side[:len(side)-576], "a stripe more": append(bytes.Clone(side), side[32:608]...), "its digest alone": side[:32],
			"the bytes": b, "another digest": slices.Concat(sidecarOf(other)[:32], side[32:]),
		} {
			checkMended(t, "with a sidecar: "+what, r, spoilt, s, left)
		}
		checkMended(t, "with its sidecar", r, spoilt, side, mended{b: b, repaired: []int{0}})
	}
}

// TestMendOfAnything: with records, bytes and sidecars that fit each other more or
// less.
func TestMendOfAnything(t *testing.T) {
	random := rand.New(rand.NewSource(3))
	counts := [3]int{}
	for range 1500 {
		n := 1 + random.Intn(2600)
		b := content(n)
		r, side := recordOf(b), sidecarOf(b)
		for range random.Intn(3) {
			r.Blocks[random.Intn(len(r.Blocks))][random.Intn(32)] ^= byte(random.Intn(2))
		}
		for range random.Intn(6) {
			b[random.Intn(n)] ^= byte(random.Intn(256))
		}
		for range random.Intn(3) {
			side = forged(side, random.Intn(count(n)))
		}
		for range random.Intn(3) {
			side[32+random.Intn(len(side)-32)] ^= byte(random.Intn(256))
		}
		if random.Intn(5) == 0 {
			b = b[:random.Intn(n+1)]
		}
		want := mendOf(r, b, side)
		checkMended(t, "anything", r, b, side, want)
		counts[0] += min(len(want.repaired), 1)
		counts[1] += min(len(want.left), 1)
		counts[2] += min(len(want.left), len(want.repaired), 1)
	}
	if slices.Min(counts[:]) < 100 {
		t.Errorf("only %v results with blocks that were repaired, are still bad, and with both", counts)
	}
}

func TestMendWithInvalidRecords(t *testing.T) {
	b := content(600)
	r := recordOf(b)
	records := map[string]record.Record{"zero": {}}
	for what, change := range map[string]func(r *record.Record){
		"no path":           func(r *record.Record) { r.Path = "" },
		"not a path":        func(r *record.Record) { r.Path = "a//b" },
		"a temp path":       func(r *record.Record) { r.Path = ".tmp~x" },
		"a sidecar's path":  func(r *record.Record) { r.Path = "d/.par~x" },
		"no version":        func(r *record.Record) { r.Version = vector.Vector{} },
		"a bad version":     func(r *record.Record) { r.Version[3] = -1 },
		"a negative Size":   func(r *record.Record) { r.Stamp.Size = -1 },
		"the least Size":    func(r *record.Record) { r.Stamp.Size = math.MinInt },
		"a great Size":      func(r *record.Record) { r.Stamp.Size = maxFile + 1 },
		"the greatest Size": func(r *record.Record) { r.Stamp.Size = math.MaxInt },
		"a smaller Size":    func(r *record.Record) { r.Stamp.Size = 512 },
		"a greater Size":    func(r *record.Record) { r.Stamp.Size = 769 },
		"a negative Time":   func(r *record.Record) { r.Stamp.Time = -1 },
		"a negative Change": func(r *record.Record) { r.Stamp.Change = -1 },
		"a digest less":     func(r *record.Record) { r.Blocks = r.Blocks[:2] },
		"a digest more":     func(r *record.Record) { r.Blocks = append(slices.Clone(r.Blocks), r.Whole) },
		"no digests":        func(r *record.Record) { r.Blocks = nil },
		"Dead":              func(r *record.Record) { r.Dead = true },
		"Dead, no bytes": func(r *record.Record) {
			r.Dead, r.Stamp.Size, r.Blocks = true, 0, nil
		},
		"deleted": func(r *record.Record) {
			r.Dead, r.Stamp.Size, r.Blocks, r.Whole = true, 0, nil, [32]byte{}
		},
	} {
		changed := r
		change(&changed)
		records[what] = changed
	}
	gone, _ := record.Gone("d/x", disk.Stamp{Time: 5}, vector.Vector{1})
	records["Gone"] = gone
	many := bytes.Repeat([]byte{1}, maxFile+256)
	records["too many bytes"] = recordOf(many)
	for what, r := range records {
		for _, b := range [][]byte{nil, b, many, spoiled(b, 1)} {
			for _, side := range [][]byte{nil, sidecarOf(b), {1, 2}} {
				got, repaired, left, e := sidecar.Mend(r, b, side)
				if len(got) != 0 || len(repaired) != 0 || len(left) != 0 || e != api.ErrRange {
					t.Errorf("P12.1: Mend of %d bytes with a record (%s): %d bytes, %v, %v, error %d", len(b), what, len(got), repaired, left, e)
				}
			}
		}
	}
	checkMended(t, "with a valid record", r, spoiled(b, 1), sidecarOf(b), mended{b: b, repaired: []int{1}})
}

// TestMendOfNoBytes: there is nothing to repair, with whatever sidecar.
func TestMendOfNoBytes(t *testing.T) {
	r := recordOf(nil)
	for _, b := range [][]byte{nil, {}, content(1), content(1400), content(maxFile + 1)} {
		for _, side := range [][]byte{nil, sidecarOf(nil), sidecarOf(b), make([]byte, 31)} {
			checkMended(t, "with a record of no bytes", r, b, side, mended{})
		}
	}
	r.Whole = sha256.Sum256([]byte("other"))
	checkMended(t, "with a record of no bytes, with another digest", r, content(1400), sidecarOf(nil), mended{})
}

// TestMendTwice: what is repaired fits; what is still bad remains so.
func TestMendTwice(t *testing.T) {
	b := content(1400)
	r, side := recordOf(b), spoiledParity(sidecarOf(b), 0)
	once, _, _, _ := sidecar.Mend(r, spoiled(b, 0, 3, 4, 5), side)
	checkMended(t, "once", r, once, side, mended{b: spoiled(b, 0, 3), left: []int{0, 3}})
	once, _, _, _ = sidecar.Mend(r, spoiled(b, 0, 4, 5), side)
	if !r.Fits(once) {
		t.Error("P12.2: repaired bytes do not fit the record")
	}
}
