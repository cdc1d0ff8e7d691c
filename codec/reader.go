package codec

import (
	"bytes"
	"cmp"

	"darner/api"
)

// Reader proceeds through bytes, until the function that Read has passed it to
// ends. Its methods end the reading where the input is invalid. Outside of a
// reading, where nobody would catch what they throw, they return zero values.
type Reader struct {
	rest   []byte
	open   bool      // The reading goes on, so that Read will catch what is thrown.
	reason api.Errno // Why the reading was ended, OK if it was not.
}

// end is what a reader throws in order to end its reading. No other package can
// throw it on its own, and readings within readings are told apart by it.
type end struct {
	of *Reader
}

// Read lets f read bytes. It returns OK if f ends with no bytes left, ErrForm if
// bytes are left, or the reason for which the reading was ended. It passes on
// any other panic of f.
func Read(b []byte, f func(r *Reader)) (e api.Errno) {
	// What is cut from the rest can never reach the spare capacity of b.
	r := &Reader{rest: b[:len(b):len(b)], open: true}
	defer func() {
		e = r.close(recover())
	}()
	f(r)
	return
}

// Number reads the next number. It ends the reading with ErrForm if there is
// none, it is not encoded in as few bytes as possible, or it does not fit into
// an int; with ErrMany if it is greater than most.
func (r *Reader) Number(most int) int {
	n, size := first(r.rest)
	if size == 0 {
		r.Fail(api.ErrForm)
	}
	if n > most {
		r.Fail(api.ErrMany)
	}
	r.cut(size)
	return n
}

// Bytes reads the number of bytes like Number, and the bytes. It ends the
// reading with ErrForm if there are not that many.
func (r *Reader) Bytes(most int) []byte {
	return bytes.Clone(r.cut(r.Number(most)))
}

// Text reads a text like Bytes.
func (r *Reader) Text(most int) string {
	return string(r.cut(r.Number(most)))
}

// Truth reads 0 or 1. It ends the reading with ErrForm if there is neither.
func (r *Reader) Truth() bool {
	var b [1]byte
	copy(b[:], r.cut(len(b)))
	if b[0] > 1 {
		r.Fail(api.ErrForm)
	}
	return b[0] == 1
}

// Digest reads 32 bytes. It ends the reading with ErrForm if there are fewer.
func (r *Reader) Digest() [32]byte {
	var d [32]byte
	copy(d[:], r.cut(len(d)))
	return d
}

// Count reads the number of elements of a list like Number. Whether there are
// that many is not checked.
func (r *Reader) Count(most int) int {
	return r.Number(most)
}

// Fail ends the reading with an error, with ErrForm for OK.
func (r *Reader) Fail(e api.Errno) {
	if !r.open {
		return
	}
	// The first reason stays, also where f recovers what is thrown, and goes on.
	r.reason = cmp.Or(r.reason, e, api.ErrForm)
	panic(end{r})
}

// Left returns the number of remaining bytes.
func (r *Reader) Left() int {
	return len(r.rest)
}

// cut returns the next n bytes, which are not copied, and proceeds behind them.
// It ends the reading with ErrForm if there are fewer; nothing is read any more
// once it has been ended.
func (r *Reader) cut(n int) []byte {
	if n > len(r.rest) || r.reason != api.OK {
		r.Fail(api.ErrForm)
		return nil // Fail returns only outside of a reading.
	}
	part := r.rest[:n:n]
	r.rest = r.rest[n:]
	return part
}

// close returns the result of the reading, given what its function threw, nil if
// it threw nothing. What does not end this reading is thrown again.
func (r *Reader) close(thrown any) api.Errno {
	left := len(r.rest)
	r.rest, r.open = nil, false
	switch x := thrown.(type) {
	case nil:
	case end:
		if x.of != r {
			panic(x)
		}
	default:
		panic(x)
	}
	if r.reason == api.OK && left > 0 {
		return api.ErrForm
	}
	return r.reason
}

// first returns the number at the beginning of bytes, and the size of its
// encoding, which is 0 if there is no number in its proper form.
func first(b []byte) (n, size int) {
	for i, x := range b[:min(len(b), mostGroups)] {
		n |= int(x%marked) << (groupBits * i)
		if x >= marked {
			continue
		}
		if x == 0 && i > 0 {
			return 0, 0 // It would have needed fewer bytes.
		}
		return n, i + 1
	}
	return 0, 0
}
