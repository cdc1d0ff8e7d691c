package codec_test

import (
	"bytes"
	"math"
	"math/rand"
	"testing"

	"darner/api"
	"darner/codec"
)

var sizes = []int{0, 1, 2, 7, 8, 9, 31, 32, 33, 127, 128, 129, 255, 256, 1000, 16384}

// overwrite changes all bytes, also those of the spare capacity, which are there
// for whoever appends. Bytes that are overwritten twice do not become the same
// again.
func overwrite(b []byte) {
	all := b[:cap(b)]
	for i := range all {
		all[i] += 0xa5
	}
}

// within returns the part of bytes from 5 on, of a length, with spare capacity.
func within(whole []byte, n int) []byte {
	return whole[5 : 5+n]
}

func TestWrittenBytesAreNotModified(t *testing.T) {
	r := rand.New(rand.NewSource(6))
	for _, n := range sizes {
		whole := arbitraryBytes(r, n+60)
		was := bytes.Clone(whole)
		var w codec.Writer
		w.Bytes(within(whole, n))
		w.Number(300)
		w.Bytes(within(whole, n))
		w.Digest([32]byte{1})
		first := w.Done()
		w.Text("more")
		second := w.Done()
		if !bytes.Equal(whole, was) {
			t.Errorf("P6.3: %d bytes: the argument of Bytes is modified", n)
		}
		overwrite(first)
		overwrite(second)
		if !bytes.Equal(whole, was) {
			t.Errorf("P6.3: %d bytes: a result of Done shares memory with the argument of Bytes", n)
		}
	}
}

func TestWrittenBytesAreNotRetained(t *testing.T) {
	r := rand.New(rand.NewSource(7))
	for _, n := range sizes {
		b := arbitraryBytes(r, n+60)[:n]
		var w codec.Writer
		w.Bytes(b)
		want := encoding(bytes.Clone(b), 300)
		overwrite(b)
		w.Number(300)
		if !bytes.Equal(w.Done(), want) {
			t.Errorf("P6.3: %d bytes: the argument of Bytes is retained", n)
		}
	}
}

func TestDoneIsNewMemory(t *testing.T) {
	r := rand.New(rand.NewSource(8))
	for range 100 {
		l := arbitraryList(r, 1+r.Intn(20))
		var w codec.Writer
		var results [][]byte
		for i, v := range l {
			write(&w, v)
			got := w.Done()
			if !bytes.Equal(got, encoding(l[:i+1]...)) {
				t.Fatalf("P6.3: Done after earlier results were modified: %x", got)
			}
			results = append(results, got)
			overwrite(w.Done())
		}
		for i, b := range results {
			if !bytes.Equal(b, encoding(l[:i+1]...)) {
				t.Fatalf("P6.3: a result of Done changes with what is appended")
			}
			overwrite(b)
		}
		if !bytes.Equal(w.Done(), encoding(l...)) {
			t.Fatalf("P6.3: Done after all results were modified: %x", w.Done())
		}
	}
}

// readAll reads values of all kinds, and modifies what it can of what is read.
func readAll(t *testing.T, r *codec.Reader, l []any) {
	for i, v := range l {
		got := read(r, v, math.MaxInt)
		if !sameValue(got, v) {
			t.Errorf("P6.3: value %d after others were modified: %#v instead of %#v", i, got, v)
		}
		if b, ok := got.([]byte); ok {
			overwrite(b)
		}
	}
}

func TestReadBytesAreNotModified(t *testing.T) {
	r := rand.New(rand.NewSource(9))
	for range 200 {
		l := append(arbitraryList(r, r.Intn(8)), []byte{1, 2, 3}, []byte{}, []byte{4})
		l = append(l, arbitraryList(r, r.Intn(4))...)
		b := encoding(l...)
		whole := append(append([]byte("begin"), b...), "behind the end"...)
		was := bytes.Clone(whole)
		if e := codec.Read(within(whole, len(b)), func(r *codec.Reader) { readAll(t, r, l) }); e != api.OK {
			t.Fatalf("P6.3: %#v: error %d", l, e)
		}
		if !bytes.Equal(whole, was) {
			t.Fatalf("P6.3: %#v: the argument of Read is modified", l)
		}
		for name, way := range ways() {
			codec.Read(within(whole, len(b)), way.end)
			if !bytes.Equal(whole, was) {
				t.Fatalf("P6.3: %s: the argument of Read is modified", name)
			}
		}
	}
}

// TestResultsOfBytesAreNewMemory: of each other, and of the bytes that are read.
func TestResultsOfBytesAreNewMemory(t *testing.T) {
	r := rand.New(rand.NewSource(10))
	for _, n := range sizes {
		first, second := arbitraryBytes(r, n), arbitraryBytes(r, n)
		text := string(arbitraryBytes(r, n))
		b := encoding(first, second, text, first)
		var got [][]byte
		var gotText string
		if e := codec.Read(b, func(r *codec.Reader) {
			got = append(got, r.Bytes(n), r.Bytes(n))
			gotText = r.Text(n)
			got = append(got, r.Bytes(n))
			overwrite(b)
		}); e != api.OK {
			t.Errorf("P6.3: %d bytes: error %d", n, e)
		}
		if !bytes.Equal(got[0], first) || !bytes.Equal(got[1], second) || gotText != text || !bytes.Equal(got[2], first) {
			t.Errorf("P6.3: %d bytes: a result shares memory with the argument of Read", n)
		}
		overwrite(got[0])
		overwrite(got[2])
		if !bytes.Equal(got[1], second) {
			t.Errorf("P6.3: %d bytes: two results of Bytes share memory", n)
		}
	}
}

// TestReadDependsOnItsBytes: not on how much capacity is behind them, nor on
// readings before.
func TestReadDependsOnItsBytes(t *testing.T) {
	r := rand.New(rand.NewSource(11))
	for range 300 {
		b := changed(r, encoding(arbitraryList(r, 1+r.Intn(3))...))
		kinds := arbitraryList(r, 1+r.Intn(3))
		result := func(b []byte) (l []any, e api.Errno) {
			e = codec.Read(b, func(r *codec.Reader) {
				for _, v := range kinds {
					l = append(l, read(r, v, 200))
				}
			})
			return l, e
		}
		spare := append(bytes.Clone(b), arbitraryBytes(r, 400)...)[:len(b)]
		want, wantError := result(bytes.Clone(b)[:len(b):len(b)])
		for range 2 {
			got, e := result(spare)
			if e != wantError || len(got) != len(want) {
				t.Fatalf("R8: %x: %#v, error %d instead of %#v, error %d", b, got, e, want, wantError)
			}
			for i := range got {
				if !sameValue(got[i], want[i]) {
					t.Fatalf("R8: %x: %#v instead of %#v", b, got[i], want[i])
				}
			}
		}
	}
}
