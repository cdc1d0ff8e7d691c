package codec

import "bytes"

// Writer appends encoded values. Its zero value is empty. A Writer that has been
// used is not copied.
type Writer struct {
	all []byte
}

// Number appends a nonnegative number. It appends nothing, and returns false,
// for a negative one.
func (w *Writer) Number(n int) bool {
	if n < 0 {
		return false
	}
	for n >= marked {
		w.all = append(w.all, byte(n%marked)|marked)
		n >>= groupBits
	}
	w.all = append(w.all, byte(n))
	return true
}

// Bytes appends the number of bytes, and the bytes.
func (w *Writer) Bytes(b []byte) {
	w.Number(len(b))
	w.all = append(w.all, b...)
}

// Text appends a text as its bytes.
func (w *Writer) Text(s string) {
	w.Number(len(s))
	w.all = append(w.all, s...)
}

// Truth appends 0 or 1.
func (w *Writer) Truth(yes bool) {
	if yes {
		w.Number(1)
	} else {
		w.Number(0)
	}
}

// Digest appends 32 bytes.
func (w *Writer) Digest(d [32]byte) {
	w.all = append(w.all, d[:]...)
}

// Done returns everything that was appended.
func (w *Writer) Done() []byte {
	return bytes.Clone(w.all)
}
