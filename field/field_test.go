package field_test

import (
	"bytes"
	"math"
	"testing"

	"darner/api"
	"darner/field"
)

// polynomial multiplies as the chapter defines it: without tables, bit by bit.
func polynomial(a, b byte) byte {
	product := 0
	for i := range 8 {
		if b>>i&1 == 1 {
			product ^= int(a) << i
		}
	}
	for i := 14; i >= 8; i-- {
		if product>>i&1 == 1 {
			product ^= 285 << (i - 8)
		}
	}
	return byte(product)
}

// all returns every number of the field, in increasing order.
func all() []byte {
	l := make([]byte, 256)
	for i := range l {
		l[i] = byte(i)
	}
	return l
}

// rows returns two different rows of n numbers.
func rows(n int) (a, b []byte) {
	a, b = make([]byte, n), make([]byte, n)
	for i := range n {
		a[i], b[i] = byte(7*i+3), byte(101*i+50)
	}
	return a, b
}

// The lengths of rows: empty, short, that of a block, and more than there are numbers.
var lengths = []int{0, 1, 2, 3, 255, 256, 257, 1000}

func TestAdd(t *testing.T) {
	f := field.New()
	for _, c := range []struct {
		l    []byte
		want byte
	}{
		{nil, 0}, {[]byte{}, 0}, {[]byte{0}, 0}, {[]byte{1}, 1}, {[]byte{255}, 255},
		{[]byte{0, 0}, 0}, {[]byte{77, 0}, 77}, {[]byte{0, 77}, 77}, {[]byte{77, 77}, 0},
		{[]byte{1, 2, 4}, 7}, {[]byte{1, 2, 3}, 0}, {[]byte{255, 255, 255}, 255},
		{[]byte{1, 2, 4, 8, 16, 32, 64, 128}, 255}, {[]byte{128, 128, 128, 128, 1}, 1},
		{all(), 0}, {all()[1:128], 0}, {all()[:254], 1},
	} {
		if got := f.Add(c.l...); got != c.want {
			t.Errorf("P2.1: Add(%v): %d instead of %d", c.l, got, c.want)
		}
	}
	if got := f.Add(); got != 0 {
		t.Errorf("P2.1: Add(): %d", got)
	}
	for _, a := range all() {
		if got := f.Add(a); got != a {
			t.Errorf("P2.1: Add(%d): %d", a, got)
		}
		for _, b := range all() {
			if got := f.Add(a, b); got != a^b {
				t.Fatalf("P2.1: Add(%d, %d): %d instead of %d", a, b, got, a^b)
			}
		}
	}
}

func TestMulOfKnownNumbers(t *testing.T) {
	f := field.New()
	for _, c := range []struct {
		l    []byte
		want byte
	}{
		{nil, 1}, {[]byte{}, 1}, {[]byte{0}, 0}, {[]byte{1}, 1}, {[]byte{255}, 255},
		{[]byte{2, 128}, 29}, {[]byte{128, 2}, 29}, {[]byte{16, 16}, 29}, {[]byte{3, 3}, 5}, {[]byte{255, 255}, 226},
		{[]byte{2, 2, 2, 2, 2, 2, 2, 2}, 29}, {[]byte{1, 1, 1}, 1}, {[]byte{1, 2, 1, 128, 1}, 29}, {[]byte{3, 3, 3}, 15},
		{[]byte{0, 3, 3}, 0}, {[]byte{3, 0, 3}, 0}, {[]byte{3, 3, 0}, 0}, {[]byte{0, 0, 0}, 0},
		{all(), 0},
		// Each number has its inverse among them, and 1 is its own.
		{all()[1:], 1},
	} {
		if got := f.Mul(c.l...); got != c.want {
			t.Errorf("P2.1: Mul(%v): %d instead of %d", c.l, got, c.want)
		}
	}
	if got := f.Mul(); got != 1 {
		t.Errorf("P2.1: Mul(): %d", got)
	}
}

func TestMulOfEveryPair(t *testing.T) {
	f := field.New()
	for _, a := range all() {
		if got := f.Mul(a); got != a {
			t.Errorf("P2.1: Mul(%d): %d", a, got)
		}
		if f.Mul(a, 1) != a || f.Mul(1, a) != a {
			t.Errorf("P2.1: products of %d and 1: %d, %d", a, f.Mul(a, 1), f.Mul(1, a))
		}
		if f.Mul(a, 0) != 0 || f.Mul(0, a) != 0 {
			t.Errorf("P2.1: products of %d and 0: %d, %d", a, f.Mul(a, 0), f.Mul(0, a))
		}
		for _, b := range all() {
			if got, want := f.Mul(a, b), polynomial(a, b); got != want {
				t.Fatalf("P2.1: Mul(%d, %d): %d instead of %d", a, b, got, want)
			}
		}
	}
}

func TestMulOfMany(t *testing.T) {
	f := field.New()
	for _, a := range all() {
		for _, b := range all() {
			c := a ^ b<<1 ^ 91
			if got, want := f.Mul(a, b, c), polynomial(polynomial(a, b), c); got != want {
				t.Fatalf("P2.1: Mul(%d, %d, %d): %d instead of %d", a, b, c, got, want)
			}
		}
	}
	for _, n := range lengths {
		l, want := bytes.Repeat([]byte{142, 255, 9}, n), byte(1)
		for _, a := range l {
			want = polynomial(want, a)
		}
		if got := f.Mul(l...); got != want {
			t.Errorf("P2.1: Mul of %d numbers: %d instead of %d", len(l), got, want)
		}
	}
}

func TestDivOfEveryPair(t *testing.T) {
	f := field.New()
	for _, a := range all() {
		for _, b := range all()[1:] {
			q, e := f.Div(a, b)
			if e != api.OK || polynomial(q, b) != a {
				t.Fatalf("P2.1: Div(%d, %d): %d, error %d", a, b, q, e)
			}
		}
	}
	for _, c := range [][3]byte{{29, 128, 2}, {29, 2, 128}, {29, 16, 16}, {5, 3, 3}, {77, 1, 77}, {77, 77, 1}, {0, 77, 0}, {1, 2, 142}} {
		if q, e := f.Div(c[0], c[1]); q != c[2] || e != api.OK {
			t.Errorf("P2.1: Div(%d, %d): %d, error %d, instead of %d", c[0], c[1], q, e, c[2])
		}
	}
}

func TestDivByZero(t *testing.T) {
	f := field.New()
	for _, a := range all() {
		if q, e := f.Div(a, 0); q != 0 || e != api.ErrZero {
			t.Errorf("P2.1: Div(%d, 0): %d, error %d", a, q, e)
		}
	}
}

func TestPowersOneByOne(t *testing.T) {
	f := field.New()
	for _, a := range all() {
		want := byte(1)
		for n := range 600 {
			if p, e := f.Power(a, n); p != want || e != api.OK {
				t.Fatalf("P2.1: Power(%d, %d): %d, error %d, instead of %d", a, n, p, e, want)
			}
			want = polynomial(want, a)
		}
	}
}

func TestPowersAtTheEdges(t *testing.T) {
	f := field.New()
	for _, c := range []struct {
		a    byte
		n    int
		want byte
	}{
		{0, 0, 1}, {0, 1, 0}, {0, 254, 0}, {0, 255, 0}, {0, 256, 0}, {0, 510, 0}, {0, math.MaxInt, 0},
		{1, 0, 1}, {1, 1, 1}, {1, 254, 1}, {1, 255, 1}, {1, 256, 1}, {1, math.MaxInt, 1},
		{2, 0, 1}, {2, 1, 2}, {2, 7, 128}, {2, 8, 29}, {2, 254, 142}, {2, 255, 1}, {2, 256, 2}, {2, 510, 1}, {2, 511, 2},
		{255, 0, 1}, {255, 1, 255}, {255, 2, 226}, {255, 255, 1}, {255, 256, 255},
	} {
		if p, e := f.Power(c.a, c.n); p != c.want || e != api.OK {
			t.Errorf("P2.1: Power(%d, %d): %d, error %d, instead of %d", c.a, c.n, p, e, c.want)
		}
	}
}

// squared determines a power by squares, for exponents too great to count up to.
func squared(a byte, n int) byte {
	power := byte(1)
	for ; n > 0; n >>= 1 {
		if n&1 == 1 {
			power = polynomial(power, a)
		}
		a = polynomial(a, a)
	}
	return power
}

func TestGreatPowers(t *testing.T) {
	f := field.New()
	for _, a := range all() {
		for _, n := range []int{math.MaxInt, math.MaxInt - 1, math.MaxInt / 2, math.MaxInt/254 + 1, 1 << 62, 1 << 40, math.MaxInt32 + 1, 65535} {
			if p, e := f.Power(a, n); p != squared(a, n) || e != api.OK {
				t.Errorf("P2.1: Power(%d, %d): %d, error %d, instead of %d", a, n, p, e, squared(a, n))
			}
		}
	}
}

func TestNegativePowers(t *testing.T) {
	f := field.New()
	for _, a := range all() {
		for _, n := range []int{-1, -2, -254, -255, -256, -510, math.MinInt32, math.MinInt + 1, math.MinInt} {
			if p, e := f.Power(a, n); p != 0 || e != api.ErrRange {
				t.Errorf("P2.1: Power(%d, %d): %d, error %d", a, n, p, e)
			}
		}
	}
}

func TestScale(t *testing.T) {
	f := field.New()
	for _, by := range all() {
		got := f.Scale(by, all())
		if len(got) != 256 {
			t.Fatalf("P2.1: Scale(%d) of 256 numbers: %d", by, len(got))
		}
		for i, x := range got {
			if x != polynomial(by, byte(i)) {
				t.Fatalf("P2.1: Scale(%d): %d is %d instead of %d", by, i, x, polynomial(by, byte(i)))
			}
		}
	}
	for _, n := range lengths {
		l, _ := rows(n)
		want := make([]byte, n)
		for i := range want {
			want[i] = polynomial(200, l[i])
		}
		if got := f.Scale(200, l); !bytes.Equal(got, want) {
			t.Errorf("P2.1: Scale of %d numbers: %v instead of %v", n, got, want)
		}
		if got := f.Scale(1, l); !bytes.Equal(got, l) {
			t.Errorf("P2.1: Scale by 1 of %d numbers: %v", n, got)
		}
		if got := f.Scale(0, l); !bytes.Equal(got, make([]byte, n)) {
			t.Errorf("P2.1: Scale by 0 of %d numbers: %v", n, got)
		}
	}
}

func TestPlus(t *testing.T) {
	f := field.New()
	for _, n := range lengths {
		a, b := rows(n)
		want := make([]byte, n)
		for i := range want {
			want[i] = a[i] ^ b[i]
		}
		if got, e := f.Plus(a, b); !bytes.Equal(got, want) || e != api.OK {
			t.Errorf("P2.1: Plus of %d numbers: %v, error %d, instead of %v", n, got, e, want)
		}
		if got, e := f.Plus(a, a); !bytes.Equal(got, make([]byte, n)) || e != api.OK {
			t.Errorf("P2.1: Plus of %d numbers and the same ones: %v, error %d", n, got, e)
		}
		if got, e := f.Plus(a, make([]byte, n)); !bytes.Equal(got, a) || e != api.OK {
			t.Errorf("P2.1: Plus of %d numbers and zeros: %v, error %d", n, got, e)
		}
	}
}

func TestEmptyRows(t *testing.T) {
	f := field.New()
	empty := [][]byte{nil, {}, all()[:0], all()[200:200]}
	for _, a := range empty {
		for _, by := range []byte{0, 1, 2, 255} {
			if got := f.Scale(by, a); len(got) != 0 {
				t.Errorf("P2.1, R5: Scale(%d) of none: %v", by, got)
			}
		}
		for _, b := range empty {
			if got, e := f.Plus(a, b); len(got) != 0 || e != api.OK {
				t.Errorf("P2.1, R5: Plus of none: %v, error %d", got, e)
			}
		}
	}
}

func TestRowsOfDifferentLengths(t *testing.T) {
	f := field.New()
	for _, n := range lengths {
		for _, m := range lengths {
			if n == m {
				continue
			}
			a, _ := rows(n)
			_, b := rows(m)
			if got, e := f.Plus(a, b); len(got) != 0 || e != api.ErrLength {
				t.Errorf("P2.1: Plus of %d and %d numbers: %v, error %d", n, m, got, e)
			}
		}
	}
	if got, e := f.Plus(nil, []byte{1}); len(got) != 0 || e != api.ErrLength {
		t.Errorf("P2.1: Plus of nil and one number: %v, error %d", got, e)
	}
	if got, e := f.Plus([]byte{1}, nil); len(got) != 0 || e != api.ErrLength {
		t.Errorf("P2.1: Plus of one number and nil: %v, error %d", got, e)
	}
	// Only lengths count, not the spare capacity that would make up for them.
	if got, e := f.Plus(all()[:3], all()[:4]); len(got) != 0 || e != api.ErrLength {
		t.Errorf("P2.1: Plus of 3 and 4 numbers with spare capacity: %v, error %d", got, e)
	}
}

// TestArgumentsAreNotModified: nor is their spare capacity, nor by one who changes a result.
func TestArgumentsAreNotModified(t *testing.T) {
	f := field.New()
	for _, n := range lengths {
		wholeA, wholeB := rows(n + 40)
		wantA, wantB := rows(n + 40)
		a, b := wholeA[:n], wholeB[:n]
		check := func(what string, result []byte) {
			t.Helper()
			result = result[:cap(result)]
			for i := range result {
				result[i] += 99
			}
			if !bytes.Equal(wholeA, wantA) || !bytes.Equal(wholeB, wantB) {
				t.Fatalf("P2.1: %s of %d numbers: an argument was modified, or is shared", what, n)
			}
		}
		f.Add(a...)
		check("Add", nil)
		f.Mul(b...)
		check("Mul", nil)
		for _, by := range []byte{0, 1, 2, 255} {
			check("Scale", f.Scale(by, a))
		}
		sums, _ := f.Plus(a, b)
		check("Plus", sums)
		sums, _ = f.Plus(a, a)
		check("Plus of the same", sums)
		none, _ := f.Plus(a, wholeB)
		check("Plus of different lengths", none)
	}
}

// TestResultsAreNewMemory: what becomes of arguments or of other results does not show in a result.
func TestResultsAreNewMemory(t *testing.T) {
	f := field.New()
	for _, n := range lengths {
		a, b := rows(n)
		scaled, again := f.Scale(3, a), f.Scale(3, a)
		sums, _ := f.Plus(a, b)
		other, _ := f.Plus(a, b)
		wantScaled, wantSums := bytes.Clone(scaled), bytes.Clone(sums)
		clear(a)
		clear(b)
		clear(again[:cap(again)])
		clear(other[:cap(other)])
		if !bytes.Equal(scaled, wantScaled) {
			t.Errorf("P2.1: Scale of %d numbers: the result is shared", n)
		}
		if !bytes.Equal(sums, wantSums) {
			t.Errorf("P2.1: Plus of %d numbers: the result is shared", n)
		}
		_ = append(scaled[:0], make([]byte, cap(scaled))...)
		if !bytes.Equal(sums, wantSums) {
			t.Errorf("P2.1: the results of Scale and Plus share memory")
		}
	}
}

// TestFieldsAreEqual: no call, not even one that fails, changes what a field answers later, or another field.
func TestFieldsAreEqual(t *testing.T) {
	used := field.New()
	used.Add(all()...)
	used.Mul(all()...)
	used.Div(9, 0)
	used.Div(0, 9)
	used.Power(0, 0)
	used.Power(3, -1)
	used.Plus(all(), nil)
	clear(used.Scale(5, all()))
	fresh := field.New()
	for _, a := range all() {
		for _, b := range all() {
			p, e := used.Div(a, b)
			q, g := fresh.Div(a, b)
			if p != q || e != g || used.Mul(a, b) != fresh.Mul(a, b) || used.Add(a, b) != fresh.Add(a, b) {
				t.Fatalf("R4, R8: a used field and a new one differ at %d and %d", a, b)
			}
		}
	}
}
