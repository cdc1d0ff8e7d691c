package record_test

import (
	"bytes"
	"slices"
	"testing"

	"darner/api"
	"darner/record"
)

// overwrite changes all bytes, also those of the spare capacity, which are there
// for whoever appends. Bytes that are overwritten twice do not become the same
// again.
func overwrite(b []byte) {
	all := b[:cap(b)]
	for i := range all {
		all[i] += 0xa5
	}
}

// overwriteDigests does the same to digests.
func overwriteDigests(l [][32]byte) {
	all := l[:cap(l)]
	for i := range all {
		overwrite(all[i][:])
	}
}

// overwriteBlocks does the same to a list of bytes, and to all of these.
func overwriteBlocks(l [][]byte) {
	for _, b := range l {
		overwrite(b)
	}
	all := l[:cap(l)]
	for i := range all {
		all[i] = nil
	}
}

// roomy returns bytes with others around them, which their spare capacity can
// reach, and all these bytes.
func roomy(b []byte) (part, whole []byte) {
	whole = slices.Concat([]byte("before"), b, []byte("behind"), make([]byte, 300))
	return whole[6 : 6+len(b)], whole
}

// roomyDigests does the same with the digests of a record.
func roomyDigests(r record.Record) (record.Record, [][32]byte) {
	whole := slices.Concat([][32]byte{{1}}, r.Blocks, [][32]byte{{2}, {3}, {4}})
	r.Blocks = whole[1 : 1+len(r.Blocks)]
	return r, whole
}

func TestBlocksAreNewMemory(t *testing.T) {
	for _, n := range append([]int{3, 300}, sizes...) {
		b, whole := roomy(content(n))
		was := bytes.Clone(whole)
		got, again := record.Cut(b), record.Cut(b)
		if !bytes.Equal(whole, was) {
			t.Errorf("P10.1: Cut of %d bytes modifies its argument", n)
		}
		for i, block := range got {
			overwrite(block)
			for k, other := range got[i+1:] {
				if !bytes.Equal(other, cut(content(n))[i+1+k]) {
					t.Fatalf("P10.1: Cut of %d bytes: the blocks %d and %d share memory", n, i, i+1+k)
				}
			}
		}
		overwriteBlocks(got)
		if !bytes.Equal(whole, was) {
			t.Errorf("P10.1: Cut of %d bytes: its blocks share memory with the argument", n)
		}
		overwrite(b)
		if !slices.EqualFunc(again, cut(content(n)), bytes.Equal) {
			t.Errorf("P10.1: Cut of %d bytes: its blocks share memory", n)
		}
	}
}

func TestArgumentsOfRecords(t *testing.T) {
	for _, n := range append(sizes, maxFile+1) {
		b, whole := roomy(content(n))
		was := bytes.Clone(whole)
		got, _ := record.Of("x", b, plain, version)
		again, _ := record.Of("x", b, plain, version)
		if !bytes.Equal(whole, was) {
			t.Errorf("P10.1: Of %d bytes modifies its argument", n)
		}
		overwrite(b)
		overwriteDigests(got.Blocks)
		if n <= maxFile && !equal(again, live("x", content(n), plain, version)) {
			t.Errorf("P10.1: Of %d bytes: records share memory", n)
		}
	}
}

// TestRecordsAreNotModified: nor the bytes that they are compared with.
func TestRecordsAreNotModified(t *testing.T) {
	for _, n := range []int{0, 1, 256, 600, maxFile} {
		r, digests := roomyDigests(sized(n))
		wasRecord, wasDigests := text(r), slices.Clone(digests)
		for _, m := range []int{0, 1, n, n + 1, n + 300} {
			b, whole := roomy(content(m))
			was := bytes.Clone(whole)
			first, second := r.Bad(b), r.Bad(b)
			for i := range first[:cap(first)] {
				first[:cap(first)][i] = -1
			}
			r.Fits(b)
			if !slices.Equal(second, r.Bad(b)) {
				t.Errorf("P10.1: results of Bad share memory")
			}
			if !bytes.Equal(whole, was) {
				t.Errorf("P10.1: Bad or Fits modifies its argument")
			}
		}
		r.Good()
		record.Same(r, r)
		record.Same(r, sized(600))
		overwrite(r.Bytes())
		if text(r) != wasRecord || !slices.Equal(digests, wasDigests) {
			t.Errorf("P10.1: the record of %d bytes is modified", n)
		}
	}
}

func TestEncodingsAreNewMemory(t *testing.T) {
	for _, r := range examples() {
		first, second := r.Bytes(), r.Bytes()
		overwrite(first)
		if !bytes.Equal(second, encoding(r)) || !bytes.Equal(r.Bytes(), encoding(r)) {
			t.Errorf("P10.1: results of Bytes share memory: %.300s", text(r))
		}
	}
}

func TestParsedRecordsAreNewMemory(t *testing.T) {
	for _, r := range examples() {
		b, whole := roomy(encoding(r))
		was := bytes.Clone(whole)
		first, e := record.Parse(b)
		second, _ := record.Parse(b)
		if e != api.OK || !bytes.Equal(whole, was) {
			t.Errorf("P10.1: Parse modifies its argument, or returns error %d", e)
		}
		overwriteDigests(first.Blocks)
		if !bytes.Equal(whole, was) {
			t.Errorf("P10.1: the result of Parse shares memory with its argument")
		}
		overwrite(b)
		if !equal(second, r) {
			t.Errorf("P10.1: Parse of the encoding of %.300s: its result shares memory", text(r))
		}
	}
}

// TestParseDependsOnItsBytes: not on those behind them, which are there for
// whoever appends.
func TestParseDependsOnItsBytes(t *testing.T) {
	for _, r := range examples() {
		b := encoding(r)
		for n := 0; n <= len(b); n += 1 + n/100 {
			want, wantError := record.Parse(bytes.Clone(b[:n])[:n:n])
			for range 2 {
				if got, e := record.Parse(b[:n]); e != wantError || !equal(got, want) {
					t.Errorf("R8: Parse of %.300x: error %d instead of %d", b[:n], e, wantError)
				}
			}
		}
	}
}
