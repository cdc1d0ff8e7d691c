package sidecar_test

import (
	"bytes"
	"crypto/sha256"
	"math/rand"

	"darner/disk"
	"darner/record"
	"darner/vector"
)

// What the functions return, as the chapter defines it, by arithmetic and digests
// of the tests' own.

const maxFile = 16384

// sizes are those at which blocks and stripes begin, their neighbours, and the
// limit.
var sizes = []int{
	0, 1, 2, 255, 256, 257, 511, 512, 513, 600, 767, 768, 769, 1023, 1024, 1025, 1279, 1280, 1281, 1400, 1792, 2047, 2048, 2049,
	maxFile - 1025, maxFile - 1024, maxFile - 1023, maxFile - 257, maxFile - 256, maxFile - 255, maxFile - 1, maxFile,
}

// content returns bytes whose blocks are all different.
func content(n int) []byte {
	b := make([]byte, n)
	rand.New(rand.NewSource(int64(n))).Read(b)
	return b
}

// products are those in the field, of all numbers: the model needs millions.
var products = func() (table [256][256]byte) {
	for i := range 1 << 16 {
		table[i>>8][i&255] = product(byte(i>>8), byte(i&255))
	}
	return table
}()

func times(a, b byte) byte {
	return products[a][b]
}

// product is the product in the field, bit by bit.
func product(a, b byte) byte {
	var sum byte
	for ; b > 0; b >>= 1 {
		if b&1 == 1 {
			sum ^= a
		}
		carry := a>>7 == 1
		if a <<= 1; carry {
			a ^= 29
		}
	}
	return sum
}

// inverse is 1 / a: the power 254 of a.
func inverse(a byte) byte {
	result := byte(1)
	for range 254 {
		result = times(result, a)
	}
	return result
}

// factor is the number of the Cauchy matrix of k and 2 in a row and a column.
func factor(k, row, column int) byte {
	return inverse(byte((k + row) ^ column))
}

// blocksOf returns copies of the blocks of bytes.
func blocksOf(b []byte) [][]byte {
	var l [][]byte
	for from := 0; from < len(b); from += 256 {
		l = append(l, bytes.Clone(b[from:min(from+256, len(b))]))
	}
	return l
}

// stripesOf returns the stripes of bytes, each as its blocks.
func stripesOf(b []byte) [][][]byte {
	var l [][][]byte
	for from := 0; from < len(b); from += 1024 {
		l = append(l, blocksOf(b[from:min(from+1024, len(b))]))
	}
	return l
}

// filled returns a block with zeros behind it, 256 bytes.
func filled(block []byte) []byte {
	return append(bytes.Clone(block), make([]byte, 256-len(block))...)
}

// parityOf returns a parity block of a stripe.
func parityOf(stripe [][]byte, row int) []byte {
	parity := make([]byte, 256)
	for column, block := range stripe {
		c := factor(len(stripe), row, column)
		for at, x := range block {
			parity[at] ^= times(c, x)
		}
	}
	return parity
}

// sealed returns bytes with their digest behind them.
func sealed(b []byte) []byte {
	d := sha256.Sum256(b)
	return append(bytes.Clone(b), d[:]...)
}

// sidecarOf returns the sidecar of bytes.
func sidecarOf(b []byte) []byte {
	d := sha256.Sum256(b)
	side := d[:]
	for _, stripe := range stripesOf(b) {
		side = append(side, sealed(parityOf(stripe, 0))...)
		side = append(side, sealed(parityOf(stripe, 1))...)
	}
	return side
}

// standsOf returns which parity blocks of a sidecar are intact.
func standsOf(side []byte, size int, whole [32]byte) []bool {
	var l []bool
	for n := range len(stripesOf(make([]byte, size))) * 2 {
		at := 32 + 288*n
		l = append(l, len(side) == lenOf(size) && bytes.Equal(side[:32], whole[:]) && bytes.Equal(sealed(side[at:at+256]), side[at:at+288]))
	}
	return l
}

// lenOf returns the length of a sidecar.
func lenOf(size int) int {
	return 32 + 576*len(stripesOf(make([]byte, size)))
}

// mended is what Mend returns without an error.
type mended struct {
	b              []byte
	repaired, left []int
}

// mendOf returns bytes that are repaired with a valid record of a file that is
// not deleted, and a sidecar.
func mendOf(r record.Record, b, side []byte) mended {
	m := mended{b: make([]byte, r.Stamp.Size)}
	copy(m.b, b)
	intact := standsOf(side, r.Stamp.Size, r.Whole)
	for n, stripe := range stripesOf(m.b) {
		var bad []int
		for i, block := range stripe {
			if sha256.Sum256(block) != r.Blocks[4*n+i] {
				bad = append(bad, i)
			}
		}
		parity := map[int][]byte{}
		for row := range 2 {
			if at := 32 + 288*(2*n+row); intact[2*n+row] {
				parity[row] = side[at : at+256]
			}
		}
		decoded := decodedOf(stripe, bad, parity)
		for k, i := range bad {
			if decoded != nil && sha256.Sum256(decoded[k][:len(stripe[i])]) == r.Blocks[4*n+i] {
				copy(m.b[1024*n+256*i:], decoded[k][:len(stripe[i])])
				m.repaired = append(m.repaired, 4*n+i)
			} else {
				m.left = append(m.left, 4*n+i)
			}
		}
	}
	return m
}

// decodedOf returns the decoded blocks of a stripe in place of the bad ones, nil
// if too few of the six blocks are left.
func decodedOf(stripe [][]byte, bad []int, parity map[int][]byte) [][]byte {
	k := len(stripe)
	if len(bad) > len(parity) {
		return nil
	}
	// What the parity blocks are but for the products of the bad blocks.
	var rest [2][]byte
	for row, block := range parity {
		rest[row] = bytes.Clone(block)
		for i := range stripe {
			if len(bad) > 0 && i == bad[0] || len(bad) > 1 && i == bad[1] {
				continue
			}
			for at, x := range stripe[i] {
				rest[row][at] ^= times(factor(k, row, i), x)
			}
		}
	}
	switch len(bad) {
	case 1:
		row := 0
		if parity[0] == nil {
			row = 1
		}
		return [][]byte{scaled(inverse(factor(k, row, bad[0])), rest[row])}
	case 2:
		// By Cramer's rule.
		a, b, c, d := factor(k, 0, bad[0]), factor(k, 0, bad[1]), factor(k, 1, bad[0]), factor(k, 1, bad[1])
		by := inverse(times(a, d) ^ times(b, c))
		return [][]byte{
			scaled(by, sum(scaled(d, rest[0]), scaled(b, rest[1]))),
			scaled(by, sum(scaled(c, rest[0]), scaled(a, rest[1]))),
		}
	}
	return nil
}

func scaled(by byte, b []byte) []byte {
	l := make([]byte, len(b))
	for at, x := range b {
		l[at] = times(by, x)
	}
	return l
}

func sum(a, b []byte) []byte {
	l := make([]byte, len(a))
	for at := range a {
		l[at] = a[at] ^ b[at]
	}
	return l
}

// recordOf is the record of bytes.
func recordOf(b []byte) record.Record {
	r := record.Record{Path: "d/x", Stamp: disk.Stamp{Size: len(b), Time: 5, Change: 6}, Version: vector.Vector{2: 7}, Whole: sha256.Sum256(b)}
	for _, block := range blocksOf(b) {
		r.Blocks = append(r.Blocks, sha256.Sum256(block))
	}
	return r
}

// spoiled returns bytes in which a byte of some blocks is changed.
func spoiled(b []byte, blocks ...int) []byte {
	l := bytes.Clone(b)
	for _, i := range blocks {
		l[256*i+(len(l)-256*i-1)/2%256] ^= 16
	}
	return l
}

// spoiledParity returns a sidecar in which a byte of some parity blocks is
// changed.
func spoiledParity(side []byte, blocks ...int) []byte {
	l := bytes.Clone(side)
	for _, i := range blocks {
		l[32+288*i+77] ^= 4
	}
	return l
}

// forged returns a sidecar in which some parity blocks are others, with their
// digests behind them.
func forged(side []byte, blocks ...int) []byte {
	l := bytes.Clone(side)
	for _, i := range blocks {
		at := 32 + 288*i
		l[at] ^= 4 // It is not of the padding, however short a block is.
		copy(l[at:], sealed(l[at:at+256]))
	}
	return l
}

// below returns the numbers from 0 to n-1 of which a set has the bits.
func below(n, set int) []int {
	var l []int
	for i := range n {
		if set>>i&1 == 1 {
			l = append(l, i)
		}
	}
	return l
}
