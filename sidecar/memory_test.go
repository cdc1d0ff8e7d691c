package sidecar_test

import (
	"bytes"
	"crypto/sha256"
	"slices"
	"testing"

	"darner/api"
	"darner/record"
	"darner/sidecar"
)

// overwrite changes all bytes, also those of the spare capacity, which are there
// for whoever appends. Bytes that are overwritten twice do not become the same
// again.
func overwrite(b []byte) {
	all := b[:cap(b)]
	for i := range all {
		all[i] += 0xa5
	}
}

// overwriteNumbers does the same to numbers.
func overwriteNumbers(l []int) {
	all := l[:cap(l)]
	for i := range all {
		all[i] += 1000
	}
}

// roomy returns bytes with others around them, which their spare capacity can
// reach, and all these bytes.
func roomy(b []byte) (part, whole []byte) {
	whole = slices.Concat([]byte("before"), b, []byte("behind"), make([]byte, 2000))
	return whole[6 : 6+len(b)], whole
}

// roomyDigests does the same with the digests of a record.
func roomyDigests(r record.Record) (record.Record, [][32]byte) {
	whole := slices.Concat([][32]byte{{1}}, r.Blocks, [][32]byte{{2}, {3}, {4}})
	r.Blocks = whole[1 : 1+len(r.Blocks)]
	return r, whole
}

func TestSidecarsAreNewMemory(t *testing.T) {
	for _, n := range append(sizes, maxFile+1) {
		b, whole := roomy(content(n))
		was := bytes.Clone(whole)
		first, e := sidecar.Make(b)
		second, _ := sidecar.Make(b)
		overwrite(first)
		if !bytes.Equal(whole, was) {
			t.Errorf("R6, P12.1: Make of %d bytes modifies its argument, or its result shares memory with it", n)
		}
		overwrite(b)
		if e == api.OK && !bytes.Equal(second, sidecarOf(content(n))) {
			t.Errorf("R6, P12.1: results of Make of %d bytes share memory", n)
		}
		if third, _ := sidecar.Make(content(n)); e == api.OK && !bytes.Equal(third, sidecarOf(content(n))) {
			t.Errorf("R8, P12.1: Make of %d bytes: another result, with another one modified", n)
		}
	}
}

func TestTruthsAreNewMemory(t *testing.T) {
	for _, n := range sizes {
		digest := sha256.Sum256(content(n))
		for _, what := range [][]byte{sidecarOf(content(n)), make([]byte, lenOf(n)), nil} {
			side, whole := roomy(what)
			was := bytes.Clone(whole)
			first := sidecar.Stands(side, n, digest)
			second := sidecar.Stands(side, n, digest)
			all := first[:cap(first)]
			for i := range all {
				all[i] = !all[i]
			}
			if !bytes.Equal(whole, was) {
				t.Errorf("R6, P12.1: Stands modifies its argument")
			}
			overwrite(side)
			if !slices.Equal(second, standsOf(what, n, digest)) {
				t.Errorf("R6, P12.1: results of Stands for %d bytes share memory", n)
			}
		}
	}
}

// TestMendedBytesAreNewMemory: and so are both lists of numbers, of the result and
// of another one.
func TestMendedBytesAreNewMemory(t *testing.T) {
	for _, n := range []int{0, 1, 256, 600, 1400, 2048, maxFile} {
		for _, spoilt := range [][]byte{content(n), spoiled(content(n), below(min((n+255)/256, 3), 5)...), spoiled(content(n), below((n+255)/256, 0b110111)...), content(n + 300)} {
			checkMemory(t, recordOf(content(n)), spoilt, sidecarOf(content(n)))
			checkMemory(t, recordOf(content(n)), spoilt, nil)
			checkMemory(t, recordOf(content(n)), spoilt[:len(spoilt)/2], spoiledParity(sidecarOf(content(n)), below(count(n), 0b101)...))
		}
	}
	gone := record.Record{Path: "x", Dead: true, Version: recordOf(nil).Version}
	for _, r := range []record.Record{{}, gone} {
		b, whole := roomy(content(1400))
		was := bytes.Clone(whole)
		if sidecar.Mend(r, b, sidecarOf(b)); !bytes.Equal(whole, was) {
			t.Error("R4, P12.1: Mend with an error modifies its argument")
		}
	}
}

// checkMemory checks that Mend modifies no argument, and that its results share no
// memory.
func checkMemory(t *testing.T, r record.Record, spoilt, parity []byte) {
	t.Helper()
	want := mendOf(r, spoilt, parity)
	r, digests := roomyDigests(r)
	b, wholeB := roomy(spoilt)
	side, wholeSide := roomy(parity)
	wasDigests, wasB, wasSide := slices.Clone(digests), bytes.Clone(wholeB), bytes.Clone(wholeSide)
	modified := func() bool {
		return !slices.Equal(digests, wasDigests) || !bytes.Equal(wholeB, wasB) || !bytes.Equal(wholeSide, wasSide)
	}
	first, firstRepaired, firstLeft, _ := sidecar.Mend(r, b, side)
	second, repaired, left, _ := sidecar.Mend(r, b, side)
	if modified() {
		t.Errorf("R6, P12.1: Mend of %d bytes modifies its arguments", len(spoilt))
	}
	overwriteNumbers(firstRepaired)
	if !slices.Equal(firstLeft, want.left) {
		t.Errorf("R6, P12.1: Mend of %d bytes: both lists of numbers share memory", len(spoilt))
	}
	overwriteNumbers(firstLeft)
	overwrite(first)
	if modified() {
		t.Errorf("R6, P12.1: Mend of %d bytes: its results share memory with its arguments", len(spoilt))
	}
	overwrite(b)
	overwrite(side)
	for i := range r.Blocks {
		r.Blocks[i] = [32]byte{}
	}
	if !bytes.Equal(second, want.b) || !slices.Equal(repaired, want.repaired) || !slices.Equal(left, want.left) {
		t.Errorf("R6, P12.1: Mend of %d bytes: its results share memory", len(spoilt))
	}
}

// TestResultsDependOnTheirBytes: not on those behind them, which are there for
// whoever appends.
func TestResultsDependOnTheirBytes(t *testing.T) {
	b := content(1400)
	r, side := recordOf(b), sidecarOf(b)
	for n := 0; n <= len(b); n += 100 {
		if got, _ := sidecar.Make(b[:n]); !bytes.Equal(got, sidecarOf(bytes.Clone(b[:n]))) {
			t.Errorf("R8: Make of %d bytes", n)
		}
		checkMend(t, "with bytes behind them", r, b[:n], side)
	}
	for n := 0; n <= len(side); n += 32 {
		checkStands(t, "with bytes behind it", side[:n], 1400, r.Whole, standsOf(bytes.Clone(side[:n]), 1400, r.Whole))
		checkMend(t, "with bytes behind the sidecar", r, spoiled(b, 2), side[:n])
	}
}
