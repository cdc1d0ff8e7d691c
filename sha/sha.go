// Package sha is layer 1: SHA-256 (FIPS 180-4): see shared/doc/01-sha.md.
package sha

const digits = "0123456789abcdef"

// Hash is the digest of bytes that are added part by part.
type Hash struct {
	state
}

// Sum returns the digest of the concatenation of the parts.
func Sum(parts ...[]byte) [32]byte {
	h := New()
	h.Add(parts...)
	return h.Sum()
}

// New returns a hash of no bytes.
func New() *Hash {
	return &Hash{begin()}
}

// Add appends bytes.
func (h *Hash) Add(parts ...[]byte) {
	for _, part := range parts {
		h.put(part)
	}
}

// Sum returns the digest of all bytes so far.
func (h *Hash) Sum() [32]byte {
	// Padding changes the state, so that a copy is padded: h can be continued.
	ended := *h
	ended.pad()
	return ended.digest()
}

// Len returns the number of bytes so far.
func (h *Hash) Len() int {
	return h.length
}

// Text returns a digest as 64 lower-case hexadecimal digits.
func Text(d [32]byte) string {
	text := make([]byte, 0, 2*len(d))
	for i := range len(d) {
		text = append(text, digits[d[i]>>4], digits[d[i]&15])
	}
	return string(text)
}
