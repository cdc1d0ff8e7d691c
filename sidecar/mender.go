package sidecar

import (
	"slices"

	"darner/api"
	"darner/record"
	"darner/sha"
	"darner/shard"
)

// mender repairs bytes of the Size of its record.
type mender struct {
	record.Record
	content []byte
	side    []byte
	intact  []bool // Which parity blocks of the sidecar are.
}

// Mend returns the repaired bytes, the numbers of the blocks that were repaired,
// and those of the blocks that are still bad. It returns ErrRange if the record
// is not valid or is that of a deleted file.
func Mend(r record.Record, b, side []byte) ([]byte, []int, []int, api.Errno) {
	if !r.Good() || r.Dead {
		return nil, nil, nil, api.ErrRange
	}
	m := newMender(r, b, side)
	var repaired []int
	for first, blocks := range stripes(m.content) {
		repaired = append(repaired, m.mend(first, blocks)...)
	}
	return m.content, repaired, m.Bad(m.content), api.OK
}

// newMender returns a mender of bytes, which it adjusts to the record's Size.
func newMender(r record.Record, b, side []byte) *mender {
	m := &mender{Record: r, side: side}
	m.content = make([]byte, m.Stamp.Size)
	copy(m.content, b)
	m.intact = Stands(side, m.Stamp.Size, m.Whole)
	return m
}

// mend repairs what it can of a stripe that begins with block first, and returns
// the numbers of the repaired blocks.
func (m *mender) mend(first int, blocks [][]byte) []int {
	decoded, bad := m.decode(first, blocks)
	var repaired []int
	for _, i := range bad {
		// The last block may be shorter than what is decoded.
		block := decoded[i][:len(blocks[i])]
		if m.has(first+i, block) {
			copy(m.content[(first+i)*api.MaxBlock:], block)
			repaired = append(repaired, first+i)
		}
	}
	return repaired
}

// decode returns all shards of a stripe, and which of its blocks are bad; nothing
// if none is, or too few shards are left.
func (m *mender) decode(first int, blocks [][]byte) (decoded [][]byte, bad []int) {
	shards, usable := m.shards(first, blocks)
	for i := range blocks {
		if !usable[i] {
			bad = append(bad, i)
		}
	}
	if len(bad) == 0 {
		return nil, nil
	}
	code, _ := shard.New(len(blocks), parityBlocks) // There is one for each number of blocks.
	// Chapter 4 does not say which shards are used where there are more than enough.
	decoded, e := code.Decode(shards, firstOf(usable, len(blocks)))
	if e != api.OK {
		return nil, nil
	}
	return decoded, bad
}

// shards returns the blocks of a stripe, followed by its parity blocks, and which
// of these are not bad or intact.
func (m *mender) shards(first int, blocks [][]byte) (shards [][]byte, usable []bool) {
	shards = padded(blocks)
	for i, block := range blocks {
		usable = append(usable, m.has(first+i, block))
	}
	at := first / stripeBlocks * parityBlocks
	for i, intact := range m.intact[at : at+parityBlocks] {
		var block []byte
		if intact {
			block, _ = entry(m.side, at+i)
		}
		shards = append(shards, block)
		usable = append(usable, intact)
	}
	return shards, usable
}

// has reports whether a block has the record's digest of block i.
func (m *mender) has(i int, block []byte) bool {
	return sha.Sum(block) == m.Blocks[i]
}

// firstOf returns a list in which only the first n truths that are true are true.
func firstOf(truths []bool, n int) []bool {
	l := slices.Clone(truths)
	for i := range l {
		l[i] = l[i] && n > 0
		if l[i] {
			n--
		}
	}
	return l
}
