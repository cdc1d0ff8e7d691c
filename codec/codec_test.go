package codec_test

import (
	"bytes"
	"encoding/binary"
	"math"
	"math/rand"
	"slices"
	"strings"
	"testing"

	"darner/api"
	"darner/codec"
)

// numbers are those at which another group of seven bits begins, their
// neighbours, the limits of the layers above, and the greatest int.
func numbers() []int {
	l := []int{0, 1, 2, 3, 5, 100, 300, 1000, 65535, 65536, api.MaxCount - 1, api.MaxCount, api.MaxCount + 1}
	for group := 1; group <= 8; group++ {
		n := 1 << (7 * group)
		l = append(l, n-2, n-1, n, n+1, 2*n-1, 2*n, 3*n+5, 127*n, 127*n+n/2)
	}
	for bit := 31; bit <= 62; bit++ {
		l = append(l, 1<<bit-1, 1<<bit, 1<<bit+1)
	}
	return append(l, math.MaxInt-1, math.MaxInt)
}

// encoded is the encoding of a number, as the library has it.
func encoded(n int) []byte {
	return binary.AppendUvarint(nil, uint64(n))
}

// encoding is that of values of all kinds, each as the chapter defines it.
func encoding(values ...any) []byte {
	var b []byte
	for _, v := range values {
		switch v := v.(type) {
		case int:
			b = append(b, encoded(v)...)
		case []byte:
			b = append(append(b, encoded(len(v))...), v...)
		case string:
			b = append(append(b, encoded(len(v))...), v...)
		case bool:
			b = append(b, map[bool]byte{false: 0, true: 1}[v])
		case [32]byte:
			b = append(b, v[:]...)
		default:
			panic("a value of no kind")
		}
	}
	return b
}

// write appends values of all kinds.
func write(w *codec.Writer, values ...any) {
	for _, v := range values {
		switch v := v.(type) {
		case int:
			w.Number(v)
		case []byte:
			w.Bytes(v)
		case string:
			w.Text(v)
		case bool:
			w.Truth(v)
		case [32]byte:
			w.Digest(v)
		default:
			panic("a value of no kind")
		}
	}
}

// read reads a value of the same kind as another one.
func read(r *codec.Reader, like any, most int) any {
	switch like.(type) {
	case int:
		return r.Number(most)
	case []byte:
		return r.Bytes(most)
	case string:
		return r.Text(most)
	case bool:
		return r.Truth()
	case [32]byte:
		return r.Digest()
	}
	panic("a value of no kind")
}

func sameValue(a, b any) bool {
	x, isBytes := a.([]byte)
	y, areBoth := b.([]byte)
	if isBytes || areBoth {
		return isBytes && areBoth && bytes.Equal(x, y)
	}
	return a == b
}

// arbitrary returns a value of any kind.
func arbitrary(r *rand.Rand) any {
	switch r.Intn(6) {
	case 0:
		return r.Int() >> r.Intn(63)
	case 1:
		return numbers()[r.Intn(len(numbers()))]
	case 2:
		return arbitraryBytes(r, r.Intn(300))
	case 3:
		return string(arbitraryBytes(r, r.Intn(140)))
	case 4:
		return r.Intn(2) == 1
	}
	return [32]byte(arbitraryBytes(r, 32))
}

func arbitraryBytes(r *rand.Rand, n int) []byte {
	b := make([]byte, n)
	r.Read(b)
	return b
}

func arbitraryList(r *rand.Rand, n int) []any {
	l := make([]any, n)
	for i := range l {
		l[i] = arbitrary(r)
	}
	return l
}

// counted are the functions that read a number, each with what it reads behind
// it, as a text.
func counted() map[string]func(r *codec.Reader, most int) (n int, behind string) {
	return map[string]func(r *codec.Reader, most int) (int, string){
		"Number": func(r *codec.Reader, most int) (int, string) { return r.Number(most), "" },
		"Count":  func(r *codec.Reader, most int) (int, string) { return r.Count(most), "" },
		"Bytes": func(r *codec.Reader, most int) (int, string) {
			b := r.Bytes(most)
			return len(b), string(b)
		},
		"Text": func(r *codec.Reader, most int) (int, string) {
			s := r.Text(most)
			return len(s), s
		},
	}
}

// ways are those in which a reading ends for a reason, with bytes to be read.
func ways() map[string]struct {
	b      []byte
	end    func(r *codec.Reader)
	reason api.Errno
} {
	type way = struct {
		b      []byte
		end    func(r *codec.Reader)
		reason api.Errno
	}
	return map[string]way{
		"no number":         {nil, func(r *codec.Reader) { r.Number(9) }, api.ErrForm},
		"a long number":     {[]byte{128, 0}, func(r *codec.Reader) { r.Number(9) }, api.ErrForm},
		"a great number":    {[]byte{10}, func(r *codec.Reader) { r.Number(9) }, api.ErrMany},
		"no bytes":          {nil, func(r *codec.Reader) { r.Bytes(9) }, api.ErrForm},
		"too few bytes":     {[]byte{2, 2}, func(r *codec.Reader) { r.Bytes(9) }, api.ErrForm},
		"too many bytes":    {make([]byte, 9), func(r *codec.Reader) { r.Bytes(-1) }, api.ErrMany},
		"no text":           {nil, func(r *codec.Reader) { r.Text(9) }, api.ErrForm},
		"too little text":   {[]byte{2, 2}, func(r *codec.Reader) { r.Text(9) }, api.ErrForm},
		"too much text":     {[]byte{2, 2, 2}, func(r *codec.Reader) { r.Text(1) }, api.ErrMany},
		"no truth":          {nil, func(r *codec.Reader) { r.Truth() }, api.ErrForm},
		"another truth":     {[]byte{2}, func(r *codec.Reader) { r.Truth() }, api.ErrForm},
		"no digest":         {nil, func(r *codec.Reader) { r.Digest() }, api.ErrForm},
		"a short digest":    {make([]byte, 31), func(r *codec.Reader) { r.Digest() }, api.ErrForm},
		"no count":          {nil, func(r *codec.Reader) { r.Count(9) }, api.ErrForm},
		"a great count":     {[]byte{10}, func(r *codec.Reader) { r.Count(9) }, api.ErrMany},
		"Fail":              {nil, func(r *codec.Reader) { r.Fail(api.ErrDigest) }, api.ErrDigest},
		"Fail with OK":      {nil, func(r *codec.Reader) { r.Fail(api.OK) }, api.ErrForm},
		"Fail, bytes left":  {[]byte{1, 2}, func(r *codec.Reader) { r.Fail(api.ErrHold) }, api.ErrHold},
		"Fail, in the end":  {[]byte{1}, func(r *codec.Reader) { r.Number(1); r.Fail(api.ErrHold) }, api.ErrHold},
		"the second number": {[]byte{1}, func(r *codec.Reader) { r.Number(1); r.Number(1) }, api.ErrForm},
	}
}

func TestEncodingsOfKnownNumbers(t *testing.T) {
	for n, want := range map[int]string{
		0: "\x00", 1: "\x01", 127: "\x7f",
		128: "\x80\x01", 129: "\x81\x01", 255: "\xff\x01", 256: "\x80\x02", 300: "\xac\x02", 16383: "\xff\x7f",
		16384: "\x80\x80\x01", 1<<21 - 1: "\xff\xff\x7f",
		1 << 21:       "\x80\x80\x80\x01",
		1 << 40:       "\x80\x80\x80\x80\x80\x20",
		1<<56 - 1:     "\xff\xff\xff\xff\xff\xff\xff\x7f",
		1 << 56:       "\x80\x80\x80\x80\x80\x80\x80\x80\x01",
		math.MaxInt:   "\xff\xff\xff\xff\xff\xff\xff\xff\x7f",
		math.MaxInt32: "\xff\xff\xff\xff\x07",
	} {
		var w codec.Writer
		if !w.Number(n) || string(w.Done()) != want {
			t.Errorf("P6.1: Number(%d): %x instead of %x", n, w.Done(), want)
		}
		if e := codec.Read([]byte(want), func(r *codec.Reader) {
			if got := r.Number(math.MaxInt); got != n {
				t.Errorf("P6.2: the number %x: %d instead of %d", want, got, n)
			}
		}); e != api.OK {
			t.Errorf("P6.2: the number %x: error %d", want, e)
		}
	}
}

func TestEncodingsOfNumbers(t *testing.T) {
	for _, n := range numbers() {
		var w codec.Writer
		if !w.Number(n) || !bytes.Equal(w.Done(), encoded(n)) {
			t.Errorf("P6.1: Number(%d): %x instead of %x", n, w.Done(), encoded(n))
		}
	}
	for n := range 70000 {
		var w codec.Writer
		if !w.Number(n) || !bytes.Equal(w.Done(), encoded(n)) {
			t.Fatalf("P6.1: Number(%d): %x instead of %x", n, w.Done(), encoded(n))
		}
	}
}

func TestNegativeNumbers(t *testing.T) {
	for _, n := range []int{-1, -2, -127, -128, -129, -300, -16384, -1 << 31, -1 << 32, -1 << 62, math.MinInt + 1, math.MinInt} {
		var w codec.Writer
		if w.Number(n) || len(w.Done()) != 0 {
			t.Errorf("P6.1: Number(%d) of an empty Writer: %x", n, w.Done())
		}
		w.Number(300)
		if w.Number(n) || !bytes.Equal(w.Done(), encoded(300)) {
			t.Errorf("P6.1: Number(%d) after 300: %x", n, w.Done())
		}
		if !w.Number(7) || !bytes.Equal(w.Done(), encoding(300, 7)) {
			t.Errorf("P6.1: Number(%d) between 300 and 7: %x", n, w.Done())
		}
	}
}

func TestEncodingsOfOtherValues(t *testing.T) {
	digest := [32]byte{0: 9, 31: 255}
	for _, c := range []struct {
		value any
		want  string
	}{
		{[]byte(nil), "\x00"}, {[]byte{}, "\x00"}, {[]byte{0}, "\x01\x00"}, {[]byte{7, 8}, "\x02\x07\x08"},
		{make([]byte, 127), "\x7f" + strings.Repeat("\x00", 127)},
		{make([]byte, 128), "\x80\x01" + strings.Repeat("\x00", 128)},
		{"", "\x00"}, {"a", "\x01a"}, {"ab", "\x02ab"}, {"\x00", "\x01\x00"}, {"é", "\x02\xc3\xa9"}, {"\xff\xfe", "\x02\xff\xfe"},
		{strings.Repeat("x", 300), "\xac\x02" + strings.Repeat("x", 300)},
		{true, "\x01"}, {false, "\x00"},
		{[32]byte{}, strings.Repeat("\x00", 32)}, {digest, "\x09" + strings.Repeat("\x00", 30) + "\xff"},
	} {
		var w codec.Writer
		write(&w, c.value)
		if string(w.Done()) != c.want {
			t.Errorf("P6.1: %T %#v: %x instead of %x", c.value, c.value, w.Done(), c.want)
		}
		if e := codec.Read([]byte(c.want), func(r *codec.Reader) {
			if got := read(r, c.value, 300); !sameValue(got, c.value) {
				t.Errorf("P6.2: %x: %#v instead of %#v", c.want, got, c.value)
			}
		}); e != api.OK {
			t.Errorf("P6.2: %x: error %d", c.want, e)
		}
	}
}

func TestEmptyWriter(t *testing.T) {
	var w codec.Writer
	if len(w.Done()) != 0 || len(new(codec.Writer).Done()) != 0 {
		t.Errorf("P6.1: Done of an empty Writer: %x", w.Done())
	}
}

// TestDoneInBetween: it does not change what is appended later.
func TestDoneInBetween(t *testing.T) {
	var w codec.Writer
	l := []any{300, "ab", true, [32]byte{5}, []byte{1, 2}, 0, false, ""}
	for i, v := range l {
		write(&w, v)
		for range 2 {
			if got, want := w.Done(), encoding(l[:i+1]...); !bytes.Equal(got, want) {
				t.Errorf("P6.1: Done after %d values: %x instead of %x", i+1, got, want)
			}
		}
	}
}

func TestWritersAreIndependent(t *testing.T) {
	var a, b codec.Writer
	a.Number(300)
	b.Text("b")
	a.Truth(true)
	b.Digest([32]byte{1})
	if !bytes.Equal(a.Done(), encoding(300, true)) || !bytes.Equal(b.Done(), encoding("b", [32]byte{1})) {
		t.Errorf("R8: two writers: %x and %x", a.Done(), b.Done())
	}
}

// TestMost: numbers of exactly most, one more, one less, and of a negative most.
func TestMost(t *testing.T) {
	for name, read := range counted() {
		for _, n := range numbers() {
			behind := ""
			if name == "Bytes" || name == "Text" {
				if n > 1<<15 {
					continue
				}
				behind = strings.Repeat("z", n)
			}
			b := append(encoded(n), behind...)
			for _, most := range []int{n, n + 1, n - 1, math.MaxInt, 0, -1, -n, math.MinInt} {
				want := api.OK
				if n > most {
					want = api.ErrMany
				}
				got, text := 0, ""
				e := codec.Read(b, func(r *codec.Reader) { got, text = read(r, most) })
				if e != want {
					t.Errorf("P6.1: %s(%d) of %d: error %d instead of %d", name, most, n, e, want)
				}
				if e == api.OK && (got != n || text != behind) {
					t.Errorf("P6.1: %s(%d) of %d: %d, %d bytes", name, most, n, got, len(text))
				}
			}
		}
	}
}

// TestInvalidNumbers: whatever the most is, the form is examined before it.
func TestInvalidNumbers(t *testing.T) {
	more := func(n int, last string) string { return strings.Repeat("\x80", n) + last }
	full := func(n int, last string) string { return strings.Repeat("\xff", n) + last }
	invalid := []string{
		// Longer than needed.
		"\x80\x00", "\x81\x00", "\xff\x00", "\x80\x80\x00", "\xff\x80\x00", "\xac\x82\x00", more(7, "\x00"), more(8, "\x00"), full(8, "\x00"), more(9, "\x00"), full(9, "\x00"), more(99, "\x00"),
		// No int has so many bits.
		more(9, "\x01"), full(9, "\x01"), full(9, "\x7f"), more(9, "\x02"), more(10, "\x01"), full(10, "\x01"), more(63, "\x01"), more(64, "\x7f"), full(500, "\x01"),
	}
	// Ended early.
	for n := range 20 {
		invalid = append(invalid, more(n, ""), full(n, ""))
	}
	for name, read := range counted() {
		for _, b := range invalid {
			for _, most := range []int{math.MaxInt, 1 << 20, 1, 0, -1, math.MinInt} {
				if e := codec.Read([]byte(b), func(r *codec.Reader) { read(r, most) }); e != api.ErrForm {
					t.Errorf("P6.1: %s(%d) of %x: error %d", name, most, b, e)
				}
			}
		}
	}
}

// TestNumbersOfFewBytes: every string of up to two bytes, and many of up to
// twelve, are read as the library does, which accepts longer encodings too.
func TestNumbersOfFewBytes(t *testing.T) {
	check := func(b []byte) {
		t.Helper()
		u, size := binary.Uvarint(b)
		valid := size > 0 && u <= math.MaxInt && len(encoded(int(u))) == size
		got, left := -1, -1
		e := codec.Read(b, func(r *codec.Reader) { got, left = r.Number(math.MaxInt), r.Left() })
		switch {
		case !valid && (e != api.ErrForm || got != -1):
			t.Fatalf("P6.1: the number %x: %d, error %d", b, got, e)
		case valid && (got != int(u) || left != len(b)-size):
			t.Fatalf("P6.1: the number %x: %d, %d bytes left", b, got, left)
		case valid && (e == api.OK) != (left == 0):
			t.Fatalf("P6.1: the number %x: error %d with %d bytes left", b, e, left)
		}
	}
	for x := range 256 {
		check([]byte{byte(x)})
		for y := range 256 {
			check([]byte{byte(x), byte(y)})
		}
	}
	r := rand.New(rand.NewSource(1))
	edges := []byte{0, 1, 2, 126, 127, 128, 129, 254, 255}
	for range 100000 {
		b := make([]byte, 1+r.Intn(12))
		for i := range b {
			b[i] = edges[r.Intn(len(edges))]
			if i < len(b)-1 && r.Intn(8) > 0 {
				b[i] |= 128
			}
		}
		check(b)
	}
}

func TestFewerBytesThanAnnounced(t *testing.T) {
	for _, name := range []string{"Bytes", "Text"} {
		read := counted()[name]
		for _, n := range []int{1, 2, 3, 127, 128, 129, 300, 16384} {
			for _, there := range []int{0, 1, n / 2, n - 1} {
				if there >= n {
					continue
				}
				b := append(encoded(n), make([]byte, there)...)
				// What is behind the end of the bytes does not count.
				spare := append(bytes.Clone(b), make([]byte, n)...)[:len(b)]
				for _, b := range [][]byte{b, spare} {
					if e := codec.Read(b, func(r *codec.Reader) { read(r, n) }); e != api.ErrForm {
						t.Errorf("P6.1: %s with %d of %d bytes: error %d", name, there, n, e)
					}
					if e := codec.Read(b, func(r *codec.Reader) { read(r, n-1) }); e != api.ErrMany {
						t.Errorf("P6.1: %s with %d of %d bytes, at most %d: error %d", name, there, n, n-1, e)
					}
				}
			}
		}
		for _, n := range []int{1 << 31, 1 << 40, 1 << 62, math.MaxInt - 1, math.MaxInt} {
			b := append(encoded(n), 1, 2, 3)
			if e := codec.Read(b, func(r *codec.Reader) { read(r, math.MaxInt) }); e != api.ErrForm {
				t.Errorf("P6.1: %s with 3 of %d bytes: error %d", name, n, e)
			}
		}
	}
}

// TestCountIsNotChecked: there may be fewer elements, or bytes, than announced.
func TestCountIsNotChecked(t *testing.T) {
	for _, n := range []int{1, 128, 1 << 40, math.MaxInt} {
		if e := codec.Read(encoded(n), func(r *codec.Reader) {
			if got := r.Count(n); got != n || r.Left() != 0 {
				t.Errorf("P6.1: Count of %d: %d, %d bytes left", n, got, r.Left())
			}
		}); e != api.OK {
			t.Errorf("P6.1: Count of %d: error %d", n, e)
		}
	}
}

func TestTruths(t *testing.T) {
	for x := range 256 {
		got, ended := false, true
		e := codec.Read([]byte{byte(x)}, func(r *codec.Reader) { got, ended = r.Truth(), false })
		if x <= 1 && (e != api.OK || ended || got != (x == 1)) {
			t.Errorf("P6.1: the truth %d: %t, error %d", x, got, e)
		}
		if x > 1 && (e != api.ErrForm || !ended) {
			t.Errorf("P6.1: the truth %d: %t, error %d, ended: %t", x, got, e, ended)
		}
	}
	if e := codec.Read(nil, func(r *codec.Reader) { r.Truth() }); e != api.ErrForm {
		t.Errorf("P6.1: no truth: error %d", e)
	}
}

func TestDigests(t *testing.T) {
	all := arbitraryBytes(rand.New(rand.NewSource(2)), 40)
	for n := range len(all) {
		want := api.ErrForm
		if n == 32 {
			want = api.OK
		}
		if e := codec.Read(all[:n], func(r *codec.Reader) {
			if d := r.Digest(); !bytes.Equal(d[:], all[:32]) || r.Left() != n-32 {
				t.Errorf("P6.1: the digest of %d bytes: %x, %d left", n, d, r.Left())
			}
		}); e != want {
			t.Errorf("P6.1: a digest of %d bytes: error %d", n, e)
		}
	}
}

func TestBytesLeft(t *testing.T) {
	for n := range 20 {
		for readTo := range n + 1 {
			want := api.ErrForm
			if readTo == n {
				want = api.OK
			}
			if e := codec.Read(make([]byte, n), func(r *codec.Reader) {
				for i := range readTo {
					if r.Left() != n-i {
						t.Errorf("P6.1: Left after %d of %d bytes: %d", i, n, r.Left())
					}
					r.Number(0)
				}
			}); e != want {
				t.Errorf("P6.1: %d of %d bytes read: error %d", readTo, n, e)
			}
		}
	}
	if e := codec.Read([]byte{}, func(r *codec.Reader) {}); e != api.OK {
		t.Errorf("P6.1: nothing read of no bytes: error %d", e)
	}
}

func TestFail(t *testing.T) {
	for e := api.Errno(-3); e < 20; e++ {
		want := e
		if e == api.OK {
			want = api.ErrForm
		}
		for _, b := range [][]byte{nil, {5}, {5, 6}, make([]byte, 100)} {
			for readTo := range min(len(b), 2) + 1 {
				if got := codec.Read(b, func(r *codec.Reader) {
					for range readTo {
						r.Number(9)
					}
					r.Fail(e)
					t.Errorf("P6.1: something is executed after Fail(%d)", e)
				}); got != want {
					t.Errorf("P6.1: Fail(%d) after %d of %d bytes: error %d", e, readTo, len(b), got)
				}
			}
		}
	}
}

func TestNothingMoreIsExecuted(t *testing.T) {
	for name, way := range ways() {
		within := func(r *codec.Reader) {
			way.end(r)
			t.Errorf("P6.1: %s: what calls it goes on", name)
		}
		later := false
		e := codec.Read(way.b, func(r *codec.Reader) {
			defer func() { later = true }()
			within(r)
			t.Errorf("P6.1: %s: the reading goes on", name)
		})
		if e != way.reason || !later {
			t.Errorf("P6.1: %s: error %d instead of %d, deferred calls executed: %t", name, e, way.reason, later)
		}
	}
}

// TestWrittenIsReadBack: lists of values of all kinds.
func TestWrittenIsReadBack(t *testing.T) {
	r := rand.New(rand.NewSource(3))
	for n := range 400 {
		l := arbitraryList(r, n%40)
		var w codec.Writer
		write(&w, l...)
		b := w.Done()
		if !bytes.Equal(b, encoding(l...)) {
			t.Fatalf("P6.1: %#v: %x", l, b)
		}
		if e := codec.Read(b, func(r *codec.Reader) {
			for i, v := range l {
				if got := read(r, v, math.MaxInt); !sameValue(got, v) {
					t.Fatalf("P6.2: %#v instead of %#v", got, v)
				}
				if r.Left() != len(encoding(l[i+1:]...)) {
					t.Fatalf("P6.1: Left after %d values of %#v: %d", i+1, l, r.Left())
				}
			}
		}); e != api.OK {
			t.Fatalf("P6.2: %#v: error %d", l, e)
		}
	}
}

func TestManyBytesAreReadBack(t *testing.T) {
	r := rand.New(rand.NewSource(4))
	for _, n := range []int{255, 256, 16383, 16384, 16385, 1<<18 - 1, 1 << 18, 1 << 21, 3 << 20} {
		b := arbitraryBytes(r, n)
		var w codec.Writer
		w.Text(string(b))
		w.Bytes(b)
		if e := codec.Read(w.Done(), func(r *codec.Reader) {
			if r.Text(n) != string(b) || !bytes.Equal(r.Bytes(n), b) {
				t.Errorf("P6.2: %d bytes: others are read", n)
			}
		}); e != api.OK {
			t.Errorf("P6.2: %d bytes: error %d", n, e)
		}
	}
}

// TestReadIsWrittenAsTheSameBytes: encodings that were changed, or are arbitrary,
// are read as values of any kind.
func TestReadIsWrittenAsTheSameBytes(t *testing.T) {
	r := rand.New(rand.NewSource(5))
	succeeded := 0
	for range 30000 {
		l := arbitraryList(r, 1+r.Intn(4))
		b := changed(r, encoding(l...))
		if r.Intn(4) == 0 {
			b = arbitraryBytes(r, r.Intn(6))
			l = arbitraryList(r, 1+r.Intn(3))
		}
		var got []any
		e := codec.Read(b, func(r *codec.Reader) {
			for _, v := range l {
				got = append(got, read(r, v, 1000))
			}
		})
		var w codec.Writer
		write(&w, got...)
		// What was read before the reading ended stands at the beginning.
		if !bytes.HasPrefix(b, w.Done()) || e == api.OK && len(w.Done()) != len(b) {
			t.Fatalf("P6.2: %x is read as %#v, error %d, which is %x", b, got, e, w.Done())
		}
		if e == api.OK {
			succeeded++
		}
	}
	if succeeded < 1000 {
		t.Errorf("the test reads too little: %d", succeeded)
	}
}

// changed returns bytes of which some are replaced, removed or added.
func changed(r *rand.Rand, b []byte) []byte {
	for range r.Intn(3) {
		at := r.Intn(len(b) + 1)
		switch {
		case r.Intn(3) == 0:
			b = slices.Insert(b, at, []byte{0, 1, 127, 128, 255}[r.Intn(5)])
		case at < len(b) && r.Intn(2) == 0:
			b = slices.Delete(b, at, at+1)
		case at < len(b):
			b[at] ^= 1 << r.Intn(8)
		}
	}
	return b
}
