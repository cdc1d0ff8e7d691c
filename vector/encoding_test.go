package vector_test

import (
	"bytes"
	"encoding/binary"
	"fmt"
	"math/rand"
	"strings"
	"testing"

	"darner/api"
	"darner/codec"
	"darner/vector"
)

// numbers are encoded one after the other, as the library has it.
func numbers(l ...uint64) []byte {
	var b []byte
	for _, n := range l {
		b = binary.AppendUvarint(b, n)
	}
	return b
}

// encoding is that of a vector, as the chapter defines it.
func encoding(v vector.Vector) []byte {
	var pairs []uint64
	for replica := range replicas {
		if v[replica] != 0 {
			pairs = append(pairs, uint64(replica), uint64(v[replica]))
		}
	}
	return append(numbers(uint64(len(pairs)/2)), numbers(pairs...)...)
}

// written is what Put writes.
func written(v vector.Vector) []byte {
	var w codec.Writer
	v.Put(&w)
	return w.Done()
}

// numberOf returns the number at the beginning of bytes, and what follows it.
func numberOf(b []byte) (n uint64, rest []byte, ok bool) {
	n, size := binary.Uvarint(b)
	if size <= 0 || n > 1<<63-1 || !bytes.Equal(numbers(n), b[:size]) {
		return 0, nil, false
	}
	return n, b[size:], true
}

// vectorOf returns the vector at the beginning of bytes, and what follows it.
func vectorOf(b []byte) (v vector.Vector, rest []byte, ok bool) {
	count, b, ok := numberOf(b)
	if !ok || count > replicas {
		return vector.Vector{}, nil, false
	}
	before := -1
	for range count {
		replica, behind, isNumber := numberOf(b)
		n, rest, areBoth := numberOf(behind)
		if !isNumber || !areBoth || replica >= replicas || int(replica) <= before || n < 1 || n > most {
			return vector.Vector{}, nil, false
		}
		v[replica] = int(n)
		before, b = int(replica), rest
	}
	return v, b, true
}

// taken reads a vector with Take. left is the number of bytes that it leaves
// unread. A Take that returns is followed by the end of the reading for another
// reason, which is told apart.
func taken(b []byte) (v vector.Vector, left int, e api.Errno) {
	e = codec.Read(b, func(r *codec.Reader) {
		v = vector.Take(r)
		left = r.Left()
		r.Fail(api.ErrHold)
	})
	if e == api.ErrHold {
		e = api.OK
	}
	return v, left, e
}

// checkTake checks what is read from bytes. What is no vector ends the reading.
func checkTake(t *testing.T, b []byte) {
	t.Helper()
	want, rest, ok := vectorOf(b)
	wantError := api.OK
	if !ok {
		wantError = api.ErrForm
	}
	got, left, e := taken(b)
	if got != want || left != len(rest) || e != wantError {
		t.Errorf("P9.1, P9.2: Take of %x: %v, %d bytes left, error %d instead of %v, %d bytes left, error %d",
			b, got, left, e, want, len(rest), wantError)
	}
	if e == api.OK && !bytes.Equal(written(got), b[:len(b)-left]) {
		t.Errorf("P9.2: Take of %x: the vector %v, whose encoding is %x", b, got, written(got))
	}
}

// checkNone checks that bytes are refused, also with others behind them.
func checkNone(t *testing.T, what string, b []byte) {
	t.Helper()
	for _, behind := range []string{"", "\x00", "\x01\x0f\x01"} {
		all := append(bytes.Clone(b), behind...)
		if v, left, e := taken(all); v != (vector.Vector{}) || left != 0 || e != api.ErrForm {
			t.Errorf("P9.1: Take of %s, %x: %v, error %d instead of %d", what, all, v, e, api.ErrForm)
		}
	}
}

// good are vectors of all kinds: without numbers, with one, with several, and
// with all of them.
func good() []vector.Vector {
	l := small(2, 0, 7, 15)
	for _, n := range edges {
		l = append(l, filled(n))
		for replica := range replicas {
			v := filled(n)
			v[replica] = 0
			l = append(l, with(replica, n), v, with(0, 1, replica, n), with(replica, n, 15, most))
		}
	}
	return l
}

func TestKnownEncodings(t *testing.T) {
	for _, c := range []struct {
		v              vector.Vector
		encoding, text string
	}{
		{vector.Vector{}, "\x00", ""},
		{with(0, 1), "\x01\x00\x01", "0:1"},
		{with(15, 1), "\x01\x0f\x01", "15:1"},
		{with(3, 1, 15, 1), "\x02\x03\x01\x0f\x01", "3:1 15:1"},
		{with(0, 127), "\x01\x00\x7f", "0:127"},
		{with(15, 127), "\x01\x0f\x7f", "15:127"},
		{with(0, 128), "\x01\x00\x80\x01", "0:128"},
		{with(15, 128), "\x01\x0f\x80\x01", "15:128"},
		{with(0, most), "\x01\x00\x80\x80\x80\x80\x80\x20", "0:1099511627776"},
		{with(15, most), "\x01\x0f\x80\x80\x80\x80\x80\x20", "15:1099511627776"},
		{with(1, 300, 9, 2, 10, most-1), "\x03\x01\xac\x02\x09\x02\x0a\xff\xff\xff\xff\xff\x1f", "1:300 9:2 10:1099511627775"},
		{
			filled(1),
			"\x10\x00\x01\x01\x01\x02\x01\x03\x01\x04\x01\x05\x01\x06\x01\x07\x01\x08\x01\x09\x01\x0a\x01\x0b\x01\x0c\x01\x0d\x01\x0e\x01\x0f\x01",
			"0:1 1:1 2:1 3:1 4:1 5:1 6:1 7:1 8:1 9:1 10:1 11:1 12:1 13:1 14:1 15:1",
		},
	} {
		if got := written(c.v); string(got) != c.encoding {
			t.Errorf("P9.1: Put of %v: %x instead of %x", c.v, got, c.encoding)
		}
		if got := c.v.Text(); got != c.text {
			t.Errorf("P9.1: Text of %v: %q instead of %q", c.v, got, c.text)
		}
		if got, left, e := taken([]byte(c.encoding)); got != c.v || left != 0 || e != api.OK {
			t.Errorf("P9.2: Take of %x: %v, %d bytes left, error %d instead of %v", c.encoding, got, left, e, c.v)
		}
	}
}

// TestEncodings: of vectors of all kinds, alone, and with bytes behind them.
func TestEncodings(t *testing.T) {
	r := rand.New(rand.NewSource(7))
	l := good()
	for range 2000 {
		l = append(l, arbitrary(r))
	}
	for _, v := range l {
		b, was := encoding(v), v
		if got := written(v); !bytes.Equal(got, b) || v != was {
			t.Errorf("P9.1: Put of %v: %x instead of %x", was, got, b)
		}
		for _, behind := range []string{"", "\x00", "\x01", "\x80", "\x02\x03\x01\x0f\x01", "\xff\xff\xff"} {
			all := append(bytes.Clone(b), behind...)
			if got, left, e := taken(all); got != v || left != len(behind) || e != api.OK {
				t.Errorf("P9.2: Take of %x: %v, %d bytes left, error %d instead of %v, %d bytes left", all, got, left, e, v, len(behind))
			}
		}
	}
}

func TestTexts(t *testing.T) {
	r := rand.New(rand.NewSource(8))
	l := good()
	for range 500 {
		l = append(l, arbitrary(r))
	}
	for _, v := range l {
		var parts []string
		for replica := range replicas {
			if v[replica] != 0 {
				parts = append(parts, fmt.Sprintf("%d:%d", replica, v[replica]))
			}
		}
		was, want := v, strings.Join(parts, " ")
		if got := v.Text(); got != want || v != was {
			t.Errorf("P9.1: Text of %v: %q instead of %q", was, got, want)
		}
	}
}

// TestPutAppends: to what was written, which stays.
func TestPutAppends(t *testing.T) {
	var w codec.Writer
	want := numbers(300)
	w.Number(300)
	for _, v := range good() {
		v.Put(&w)
		want = append(want, encoding(v)...)
		w.Text("x")
		want = append(want, "\x01x"...)
	}
	if got := w.Done(); !bytes.Equal(got, want) {
		t.Errorf("P9.1: several Puts: %x instead of %x", got, want)
	}
}

// TestTakeInOrder: vectors among other values are read one after the other.
func TestTakeInOrder(t *testing.T) {
	r := rand.New(rand.NewSource(9))
	for range 300 {
		l := append(family(r, r.Intn(6)), vector.Vector{}, filled(most))
		var w codec.Writer
		for i, v := range l {
			w.Number(i)
			v.Put(&w)
			w.Truth(true)
		}
		was := w.Done()
		b := bytes.Clone(was)
		if e := codec.Read(b, func(r *codec.Reader) {
			for i, v := range l {
				n, got, yes := r.Number(100), vector.Take(r), r.Truth()
				if n != i || got != v || !yes {
					t.Errorf("P9.2: vector %d of %v: %v between %d and %t", i, l, got, n, yes)
				}
			}
		}); e != api.OK {
			t.Errorf("P9.2: the vectors %v among other values: error %d", l, e)
		}
		if !bytes.Equal(b, was) {
			t.Errorf("P9.1, R6: Take changes the bytes %x to %x", was, b)
		}
	}
}

// TestTakeOfTruncatedEncodings: wherever they end.
func TestTakeOfTruncatedEncodings(t *testing.T) {
	for _, v := range append(good(), with(0, 300, 15, most), filled(most)) {
		b := encoding(v)
		for n := range b {
			if got, _, e := taken(b[:n]); got != (vector.Vector{}) || e != api.ErrForm {
				t.Errorf("P9.1: Take of %x, truncated to %x: %v, error %d instead of %d", b, b[:n], got, e, api.ErrForm)
			}
		}
	}
}

// TestTakeOfWrongNumbers: as the only one, the first one and the last one.
func TestTakeOfWrongNumbers(t *testing.T) {
	for _, n := range []uint64{0, most + 1, most + 2, 1 << 41, 1<<63 - 1, 1 << 63, 1<<64 - 1} {
		for replica := range uint64(replicas) {
			checkNone(t, "a wrong number", numbers(1, replica, n))
		}
		checkNone(t, "a wrong first number", numbers(2, 0, n, 15, 1))
		checkNone(t, "a wrong last number", numbers(2, 0, 1, 15, n))
		all := []uint64{16}
		for replica := range uint64(15) {
			all = append(all, replica, 1)
		}
		checkNone(t, "a wrong last number of all", numbers(append(all, 15, n)...))
	}
}

func TestTakeOfWrongReplicas(t *testing.T) {
	for _, replica := range []uint64{16, 17, 31, 127, 128, 256, 271, 1 << 32, 1<<63 - 1, 1 << 63, 1<<64 - 1} {
		checkNone(t, "a wrong replica", numbers(1, replica, 1))
		checkNone(t, "a wrong first replica", numbers(2, replica, 1, 15, 1))
		checkNone(t, "a wrong last replica", numbers(2, 0, 1, replica, 1))
		checkNone(t, "a wrong last replica", numbers(2, 15, 1, replica, 1))
	}
}

// TestTakeOfReplicasInAnyOrder: two of them, each before each, and three.
func TestTakeOfReplicasInAnyOrder(t *testing.T) {
	for first := range uint64(replicas) {
		for second := range uint64(replicas) {
			b := numbers(2, first, 5, second, 6)
			checkTake(t, b)
			if first >= second {
				checkNone(t, "replicas that do not increase", b)
				checkNone(t, "replicas that do not increase", numbers(2, first, 5, second, 5))
			}
			for third := range uint64(replicas) {
				checkTake(t, numbers(3, first, 1, second, 1, third, 1))
			}
		}
	}
	checkNone(t, "a replica twice", numbers(2, 3, 1, 3, 1))
	checkNone(t, "a replica twice", numbers(3, 0, 1, 15, 1, 15, 2))
	checkNone(t, "replicas that do not increase", numbers(3, 0, 1, 15, 1, 14, 1))
	checkNone(t, "replicas that do not increase", numbers(3, 1, 1, 0, 1, 2, 1))
}

func TestTakeOfMoreNumbers(t *testing.T) {
	for _, count := range []uint64{17, 18, 32, 127, 128, 300, 1 << 32, 1<<63 - 1, 1 << 63, 1<<64 - 1} {
		checkNone(t, "a great count alone", numbers(count))
		l := []uint64{count}
		for i := range uint64(200) {
			l = append(l, min(i, 15), 1)
		}
		checkNone(t, "a great count, and replica 15 again", numbers(l...))
		l = []uint64{count}
		for i := range uint64(200) {
			l = append(l, i, 1)
		}
		checkNone(t, "a great count, and other replicas", numbers(l...))
	}
}

// TestTakeOfLongNumbers: each number of an encoding in more bytes than needed,
// or too long for an int.
func TestTakeOfLongNumbers(t *testing.T) {
	for _, l := range [][]uint64{{0}, {1, 0, 1}, {1, 15, 127}, {1, 3, 128}, {2, 0, 1, 15, most}, {2, 7, 300, 8, 1}} {
		for i := range l {
			front, n, rest := numbers(l[:i]...), numbers(l[i]), numbers(l[i+1:]...)
			last := len(n) - 1
			for more := 1; more < 12; more++ {
				longer := append(bytes.Clone(n[:last]), n[last]|128)
				longer = append(append(longer, bytes.Repeat([]byte{128}, more-1)...), 0)
				checkNone(t, "a number in too many bytes", bytes.Join([][]byte{front, longer, rest}, nil))
			}
			endless := bytes.Repeat([]byte{255}, 20)
			checkNone(t, "a number without an end", bytes.Join([][]byte{front, endless, rest}, nil))
		}
	}
}

// TestTakeOfAllShortBytes: of any one or two bytes, and of up to five out of
// those that matter.
func TestTakeOfAllShortBytes(t *testing.T) {
	checkTake(t, nil)
	for first := range 256 {
		checkTake(t, []byte{byte(first)})
		for second := range 256 {
			checkTake(t, []byte{byte(first), byte(second)})
		}
	}
	lists := [][]byte{nil}
	for range 5 {
		var longer [][]byte
		for _, b := range lists {
			for _, x := range []byte{0, 1, 2, 3, 15, 16, 127, 128, 129} {
				longer = append(longer, append(bytes.Clone(b), x))
			}
		}
		lists = longer
		for _, b := range lists {
			checkTake(t, b)
		}
	}
}

// TestTakeOfChangedEncodings: with bytes changed, removed, inserted or appended.
func TestTakeOfChangedEncodings(t *testing.T) {
	r := rand.New(rand.NewSource(10))
	for range 30000 {
		b := encoding(arbitrary(r))
		for range 1 + r.Intn(3) {
			at := r.Intn(len(b) + 1)
			front, behind := b[:at:at], b[at:]
			x := byte(r.Intn(256) >> r.Intn(8))
			switch {
			case r.Intn(3) == 0 || at == len(b):
				b = append(append(front, x), behind...)
			case r.Intn(2) == 0:
				b = append(front, behind[1:]...)
			default:
				b = append(append(front, x), behind[1:]...)
			}
		}
		checkTake(t, b)
	}
}

// TestTakeEndsTheReading: nothing more of it is executed, that of another
// reading around it is.
func TestTakeEndsTheReading(t *testing.T) {
	for _, b := range [][]byte{nil, {1}, {1, 3}, {1, 3, 0}, {1, 16, 1}, {2, 3, 1, 3, 1}, {17}, {128, 0}, numbers(1, 0, most+1)} {
		went := false
		outer := codec.Read([]byte{1, 4, 2}, func(r *codec.Reader) {
			inner := codec.Read(b, func(r *codec.Reader) {
				vector.Take(r)
				t.Errorf("P9.1: after Take of %x the reading goes on", b)
			})
			if v := vector.Take(r); inner != api.ErrForm || v != with(4, 2) {
				t.Errorf("P9.1: Take of %x: error %d instead of %d; behind it %v", b, inner, api.ErrForm, v)
			}
			went = true
		})
		if outer != api.OK || !went {
			t.Errorf("P9.1: Take of %x ends the reading around its own: error %d", b, outer)
		}
	}
}

// TestTakeOutsideOfReading: there is nothing to be read, and nobody to catch
// what is thrown.
func TestTakeOutsideOfReading(t *testing.T) {
	var kept *codec.Reader
	codec.Read(encoding(filled(5)), func(r *codec.Reader) { kept = r })
	for _, r := range []*codec.Reader{kept, {}} {
		if v := vector.Take(r); v != (vector.Vector{}) {
			t.Errorf("P6: Take outside of a reading: %v", v)
		}
	}
}
