package sha

import (
	"math/bits"

	"darner/api"
)

const (
	blockSize = 64
	// Where the number of bits begins in the last block.
	lengthAt = blockSize - 8
)

// state is what remains of the bytes so far: H after all complete blocks, the
// bytes of the block that is not complete yet, and the number of all bytes.
type state struct {
	words  [8]uint32
	block  [blockSize]byte
	length int
}

func begin() state {
	return state{words: api.First256}
}

// put appends bytes, and mixes in each block that they complete.
func (s *state) put(b []byte) {
	for i := range len(b) {
		s.block[s.length%blockSize] = b[i]
		s.length++
		if s.length%blockSize == 0 {
			s.mix()
		}
	}
}

// pad completes the last block: nothing can be appended afterwards.
func (s *state) pad() {
	count := uint64(s.length) * 8
	s.put([]byte{0x80})
	for s.length%blockSize != lengthAt {
		s.put([]byte{0})
	}
	for i := range 8 {
		s.put([]byte{byte(count >> (56 - 8*i))})
	}
}

// digest returns H as bytes.
func (s *state) digest() [32]byte {
	var d [32]byte
	for i := range len(d) {
		d[i] = byte(s.words[i/4] >> (24 - 8*(i%4)))
	}
	return d
}

// mix adds a complete block to H.
func (s *state) mix() {
	w := schedule(&s.block)
	a, b, c, d := s.words[0], s.words[1], s.words[2], s.words[3]
	e, f, g, h := s.words[4], s.words[5], s.words[6], s.words[7]
	for t := range len(w) {
		t1 := h + bigSigma1(e) + (e&f ^ ^e&g) + api.Words256[t] + w[t]
		t2 := bigSigma0(a) + (a&b ^ a&c ^ b&c)
		h, g, f, e = g, f, e, d+t1
		d, c, b, a = c, b, a, t1+t2
	}
	for i, x := range [8]uint32{a, b, c, d, e, f, g, h} {
		s.words[i] += x
	}
}

// schedule returns the words W of a block.
func schedule(block *[blockSize]byte) [64]uint32 {
	var w [64]uint32
	for i := range len(block) {
		w[i/4] = w[i/4]<<8 | uint32(block[i])
	}
	for t := 16; t < len(w); t++ {
		w[t] = smallSigma1(w[t-2]) + w[t-7] + smallSigma0(w[t-15]) + w[t-16]
	}
	return w
}

func bigSigma0(x uint32) uint32 {
	return rotr(x, 2) ^ rotr(x, 13) ^ rotr(x, 22)
}

func bigSigma1(x uint32) uint32 {
	return rotr(x, 6) ^ rotr(x, 11) ^ rotr(x, 25)
}

func smallSigma0(x uint32) uint32 {
	return rotr(x, 7) ^ rotr(x, 18) ^ x>>3
}

func smallSigma1(x uint32) uint32 {
	return rotr(x, 17) ^ rotr(x, 19) ^ x>>10
}

// rotr rotates right: the library rotates left.
func rotr(x uint32, n int) uint32 {
	return bits.RotateLeft32(x, -n)
}
