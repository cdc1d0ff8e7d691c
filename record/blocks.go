package record

import (
	"bytes"
	"iter"

	"darner/api"
	"darner/sha"
)

// Cut returns the blocks of bytes.
func Cut(b []byte) [][]byte {
	var l [][]byte
	for _, block := range blocks(b) {
		l = append(l, bytes.Clone(block))
	}
	return l
}

// Bad returns the numbers, in increasing order, of the blocks in which bytes
// differ from the record.
func (r Record) Bad(b []byte) []int {
	var bad []int
	for i, block := range blocks(b) {
		if !r.has(i, block) {
			bad = append(bad, i)
		}
	}
	for missing := count(len(b)); missing < len(r.Blocks); missing++ {
		bad = append(bad, missing)
	}
	return bad
}

// Fits reports whether bytes are exactly those of the record. None are those of
// a deleted file.
func (r Record) Fits(b []byte) bool {
	return !r.Dead && len(b) == r.Stamp.Size && len(r.Bad(b)) == 0 && sha.Sum(b) == r.Whole
}

// has reports whether block i is as the record states. A last block that is
// longer than the Size permits is not, though its digest may be the record's.
func (r Record) has(i int, block []byte) bool {
	return i < len(r.Blocks) && i*api.MaxBlock+len(block) <= r.Stamp.Size && sha.Sum(block) == r.Blocks[i]
}

// digests returns those of the blocks of bytes.
func digests(b []byte) [][32]byte {
	var l [][32]byte
	for _, block := range blocks(b) {
		l = append(l, sha.Sum(block))
	}
	return l
}

// blocks yields the numbers of the blocks of bytes, with the blocks, which are
// not copied.
func blocks(b []byte) iter.Seq2[int, []byte] {
	return func(yield func(i int, block []byte) bool) {
		for i := range count(len(b)) {
			from := i * api.MaxBlock
			to := min(from+api.MaxBlock, len(b))
			if !yield(i, b[from:to:to]) {
				return
			}
		}
	}
}

// count returns the number of blocks of so many bytes.
func count(size int) int {
	return (size + api.MaxBlock - 1) / api.MaxBlock
}
