package matrix_test

import (
	"bytes"
	"math"
	"math/rand"
	"slices"
	"testing"

	"darner/api"
	"darner/field"
	"darner/matrix"
)

// times multiplies as chapter 2 defines it: without tables, bit by bit.
func times(a, b byte) byte {
	product := byte(0)
	for ; b > 0; b >>= 1 {
		if b&1 == 1 {
			product ^= a
		}
		carry := a >> 7
		a = a<<1 ^ carry*29
	}
	return product
}

// mul multiplies as the chapter defines it, for rows of any equal length.
func mul(a, b [][]byte) [][]byte {
	product := make([][]byte, len(a))
	for i := range a {
		product[i] = make([]byte, len(b[0]))
		for k := range b[0] {
			for j := range b {
				product[i][k] ^= times(a[i][j], b[j][k])
			}
		}
	}
	return product
}

// determinant expands by the first row; the field has no signs. It is only for
// small sizes.
func determinant(a [][]byte) byte {
	if len(a) == 0 {
		return 1
	}
	sum := byte(0)
	for j, x := range a[0] {
		var minor [][]byte
		for _, row := range a[1:] {
			minor = append(minor, append(slices.Clone(row[:j]), row[j+1:]...))
		}
		sum ^= times(x, determinant(minor))
	}
	return sum
}

// unit is the unit matrix of size n.
func unit(n int) matrix.Matrix {
	a := zeros(n, n)
	for i := range n {
		a[i][i] = 1
	}
	return a
}

// zeros is a matrix of n rows and m columns that holds only 0.
func zeros(n, m int) matrix.Matrix {
	a := make(matrix.Matrix, n)
	for i := range n {
		a[i] = make([]byte, m)
	}
	return a
}

// arbitrary is a matrix, or rows of bytes, of n rows and m columns that holds
// all kinds of numbers.
func arbitrary(r *rand.Rand, n, m int) matrix.Matrix {
	a := zeros(n, m)
	for _, row := range a {
		r.Read(row)
	}
	return a
}

// regular is a matrix of size n that has an inverse: the product of one with
// zeros below, one with zeros above and an order of the rows.
func regular(r *rand.Rand, n int) matrix.Matrix {
	low, high := unit(n), unit(n)
	for i := range n {
		low[i][i], high[i][i] = byte(1+r.Intn(255)), byte(1+r.Intn(255))
		for j := range i {
			low[i][j], high[j][i] = byte(r.Intn(256)), byte(r.Intn(256))
		}
	}
	a := mul(low, high)
	r.Shuffle(n, func(i, j int) { a[i], a[j] = a[j], a[i] })
	return a
}

// equal compares rows without the package's help.
func equal(a, b [][]byte) bool {
	return slices.EqualFunc(a, b, bytes.Equal)
}

// clone copies rows, to compare them later.
func clone(a [][]byte) [][]byte {
	c := make([][]byte, len(a))
	for i, row := range a {
		c[i] = slices.Clone(row)
	}
	return c
}

// The sizes of matrices: the smallest ones, some between, and the greatest ones.
var sizes = []int{1, 2, 3, 4, 5, 8, 31, 32, 33, 63, 64}

// The sizes that no matrix has.
var outside = []int{0, 65, 66, 100, 128, 255, 256, 257, 320, 1 << 32, 1<<32 + 1, math.MaxInt, -1, -2, -63, -64, -65, -255, -256, math.MinInt32, math.MinInt + 1, math.MinInt}

// noMatrices are those that are no matrices, by what is wrong with them.
func noMatrices() map[string]matrix.Matrix {
	shorter := zeros(64, 64)
	shorter[63] = shorter[63][:63]
	longer := zeros(64, 63)
	longer[63] = make([]byte, 64)
	none := unit(3)
	none[1] = nil
	first := unit(3)
	first[0] = []byte{}
	return map[string]matrix.Matrix{
		"nil":                        nil,
		"no rows":                    {},
		"no rows, but spare ones":    unit(2)[:0],
		"a nil row":                  {nil},
		"an empty row":               {{}},
		"empty rows":                 {{}, nil, {}},
		"64 empty rows":              zeros(64, 0),
		"65 empty rows":              zeros(65, 0),
		"65 rows":                    zeros(65, 1),
		"65 rows of 64 numbers":      zeros(65, 64),
		"65 columns":                 zeros(1, 65),
		"64 rows of 65 numbers":      zeros(64, 65),
		"65 rows of 65 numbers":      unit(65),
		"256 rows":                   zeros(256, 1),
		"257 columns":                zeros(1, 257),
		"a shorter row":              {{1, 2}, {3}},
		"a longer row":               {{1}, {2, 3}},
		"a shorter row between":      {{1, 2}, {3}, {4, 5}},
		"a longer row between":       {{1, 2}, {3, 4, 5}, {6, 7}},
		"a row of no numbers":        none,
		"a first row of no numbers":  first,
		"a shorter row at the end":   shorter,
		"a longer row at the end":    longer,
		"as many numbers, other row": {{1, 2, 3}, {4}},
	}
}

func TestUnit(t *testing.T) {
	for n := 1; n <= 64; n++ {
		u, e := matrix.Unit(n)
		if e != api.OK || !equal(u, unit(n)) {
			t.Errorf("P3.1: Unit(%d): %v, error %d", n, u, e)
		}
	}
	if u, e := matrix.Unit(3); e != api.OK || !equal(u, [][]byte{{1, 0, 0}, {0, 1, 0}, {0, 0, 1}}) {
		t.Errorf("P3.1: Unit(3): %v, error %d", u, e)
	}
	for _, n := range outside {
		if u, e := matrix.Unit(n); len(u) != 0 || e != api.ErrRange {
			t.Errorf("P3.1: Unit(%d): %v, error %d", n, u, e)
		}
	}
}

func TestCauchy(t *testing.T) {
	for k := 1; k <= 64; k++ {
		for m := 1; m <= 64; m++ {
			c, e := matrix.Cauchy(k, m)
			if e != api.OK || len(c) != m {
				t.Fatalf("P3.1: Cauchy(%d, %d): %d rows, error %d", k, m, len(c), e)
			}
			for i, row := range c {
				if len(row) != k {
					t.Fatalf("P3.1: Cauchy(%d, %d): row %d has %d numbers", k, m, i, len(row))
				}
				for j, x := range row {
					if times(x, byte((k+i)^j)) != 1 {
						t.Fatalf("P3.1: Cauchy(%d, %d): %d in row %d and column %d", k, m, x, i, j)
					}
				}
			}
		}
	}
}

// TestKnownCauchyMatrices: the quotients, with what chapter 2 says about them.
func TestKnownCauchyMatrices(t *testing.T) {
	f := field.New()
	one := func(by byte) byte {
		q, e := f.Div(1, by)
		if e != api.OK {
			t.Fatalf("P2.1: Div(1, %d): error %d", by, e)
		}
		return q
	}
	for _, c := range []struct {
		k, m int
		want matrix.Matrix
	}{
		{1, 1, matrix.Matrix{{1}}},
		{2, 1, matrix.Matrix{{one(2), one(3)}}},
		{1, 2, matrix.Matrix{{1}, {one(2)}}},
		{2, 2, matrix.Matrix{{one(2), one(3)}, {one(3), one(2)}}},
		{3, 2, matrix.Matrix{{one(3), one(2), one(1)}, {one(4), one(5), one(6)}}},
		{1, 4, matrix.Matrix{{one(1)}, {one(2)}, {one(3)}, {one(4)}}},
	} {
		if got, e := matrix.Cauchy(c.k, c.m); e != api.OK || !equal(got, c.want) {
			t.Errorf("P3.1: Cauchy(%d, %d): %v, error %d, instead of %v", c.k, c.m, got, e, c.want)
		}
	}
	greatest, e := matrix.Cauchy(64, 64)
	if e != api.OK || len(greatest) != 64 || greatest[0][0] != one(64) || greatest[0][63] != one(127) || greatest[63][0] != one(127) || greatest[63][63] != one(64) {
		t.Errorf("P3.1: Cauchy(64, 64): %v, error %d", greatest, e)
	}
}

func TestCauchyOutOfRange(t *testing.T) {
	for _, n := range outside {
		for _, m := range append([]int{1, 2, 32, 63, 64}, outside...) {
			if c, e := matrix.Cauchy(n, m); len(c) != 0 || e != api.ErrRange {
				t.Errorf("P3.1: Cauchy(%d, %d): %v, error %d", n, m, c, e)
			}
			if c, e := matrix.Cauchy(m, n); len(c) != 0 || e != api.ErrRange {
				t.Errorf("P3.1: Cauchy(%d, %d): %v, error %d", m, n, c, e)
			}
		}
	}
}

func TestGood(t *testing.T) {
	r := rand.New(rand.NewSource(1))
	for _, n := range sizes {
		for _, m := range sizes {
			if !matrix.Good(zeros(n, m)) || !matrix.Good(arbitrary(r, n, m)) {
				t.Errorf("P3.1: Good: %d rows of %d numbers are none", n, m)
			}
		}
	}
	for what, a := range noMatrices() {
		if matrix.Good(a) {
			t.Errorf("P3.1: Good: %s is one", what)
		}
	}
}

// TestGoodAtEachRow: none of the rows may have another length, whichever it is.
func TestGoodAtEachRow(t *testing.T) {
	for _, n := range []int{2, 3, 4, 64} {
		for i := range n {
			for _, length := range []int{0, 1, 2, 4, 5, 64, 65} {
				a := zeros(n, 3)
				a[i] = make([]byte, length)
				if matrix.Good(a) {
					t.Errorf("P3.1: Good: row %d of %d has %d instead of 3 numbers", i, n, length)
				}
			}
		}
	}
}

func TestMul(t *testing.T) {
	f := field.New()
	for _, c := range []struct{ a, b, want matrix.Matrix }{
		{matrix.Matrix{{2}}, matrix.Matrix{{128}}, matrix.Matrix{{29}}},
		{matrix.Matrix{{0}}, matrix.Matrix{{128}}, matrix.Matrix{{0}}},
		{matrix.Matrix{{1, 2}, {3, 4}}, matrix.Matrix{{1, 0}, {0, 1}}, matrix.Matrix{{1, 2}, {3, 4}}},
		{matrix.Matrix{{1, 2}, {3, 4}}, matrix.Matrix{{0, 1}, {1, 0}}, matrix.Matrix{{2, 1}, {4, 3}}},
		{matrix.Matrix{{0, 1}, {1, 0}}, matrix.Matrix{{1, 2}, {3, 4}}, matrix.Matrix{{3, 4}, {1, 2}}},
		{matrix.Matrix{{1, 1}}, matrix.Matrix{{5}, {5}}, matrix.Matrix{{0}}},
		{matrix.Matrix{{5}, {6}}, matrix.Matrix{{1, 2, 3}}, matrix.Matrix{{5, 10, 15}, {6, 12, 10}}},
		{matrix.Matrix{{1, 2, 3}}, matrix.Matrix{{5}, {6}, {7}}, matrix.Matrix{{0}}},
	} {
		if got, e := matrix.Mul(f, c.a, c.b); e != api.OK || !equal(got, c.want) {
			t.Errorf("P3.1: Mul(%v, %v): %v, error %d, instead of %v", c.a, c.b, got, e, c.want)
		}
	}
}

func TestMulOfAllSizes(t *testing.T) {
	f, r := field.New(), rand.New(rand.NewSource(2))
	for _, n := range []int{1, 2, 5, 63, 64} {
		for _, m := range []int{1, 3, 64} {
			for _, k := range []int{1, 2, 7, 64} {
				a, b := arbitrary(r, n, m), arbitrary(r, m, k)
				if got, e := matrix.Mul(f, a, b); e != api.OK || !equal(got, mul(a, b)) {
					t.Errorf("P3.1: Mul of %d rows of %d and %d rows of %d: %v, error %d", n, m, m, k, got, e)
				}
			}
		}
		a := arbitrary(r, n, n)
		if got, e := matrix.Mul(f, a, a); e != api.OK || !equal(got, mul(a, a)) {
			t.Errorf("P3.1: Mul of one of %d rows and itself: %v, error %d", n, got, e)
		}
		if got, e := matrix.Mul(f, a, unit(n)); e != api.OK || !equal(got, a) {
			t.Errorf("P3.1: Mul of one of %d rows and the unit matrix: %v, error %d", n, got, e)
		}
		if got, e := matrix.Mul(f, unit(n), a); e != api.OK || !equal(got, a) {
			t.Errorf("P3.1: Mul of the unit matrix and one of %d rows: %v, error %d", n, got, e)
		}
	}
}

func TestMulOfWhatDoesNotFit(t *testing.T) {
	f, r := field.New(), rand.New(rand.NewSource(3))
	for _, n := range sizes {
		for _, m := range sizes {
			if n == m {
				continue
			}
			// Either the columns of a, or only its rows, are as many as the rows of b are not.
			for _, c := range [][4]int{{1, n, m, 1}, {m, n, m, n}, {n, n, m, m}, {2, n, m, n}, {m, n, m, m}} {
				a, b := arbitrary(r, c[0], c[1]), arbitrary(r, c[2], c[3])
				if got, e := matrix.Mul(f, a, b); len(got) != 0 || e != api.ErrLength {
					t.Errorf("P3.1: Mul of %d rows of %d and %d rows of %d: %v, error %d", c[0], c[1], c[2], c[3], got, e)
				}
			}
		}
	}
}

// TestMulOfNoMatrix: also where the sizes do not fit, for that is looked at later.
func TestMulOfNoMatrix(t *testing.T) {
	f := field.New()
	for what, a := range noMatrices() {
		for _, b := range []matrix.Matrix{unit(1), unit(2), unit(3), unit(64), zeros(1, 64), zeros(64, 1)} {
			if got, e := matrix.Mul(f, a, b); len(got) != 0 || e != api.ErrRange {
				t.Errorf("P3.1: Mul of %s: %v, error %d", what, got, e)
			}
			if got, e := matrix.Mul(f, b, a); len(got) != 0 || e != api.ErrRange {
				t.Errorf("P3.1: Mul by %s: %v, error %d", what, got, e)
			}
		}
		for other, b := range noMatrices() {
			if got, e := matrix.Mul(f, a, b); len(got) != 0 || e != api.ErrRange {
				t.Errorf("P3.1: Mul of %s and %s: %v, error %d", what, other, got, e)
			}
		}
	}
}

// checkInverse inverts a matrix that has an inverse, and multiplies them.
func checkInverse(t *testing.T, a matrix.Matrix) {
	t.Helper()
	b, e := matrix.Invert(field.New(), a)
	if e != api.OK || !matrix.Good(b) || len(b) != len(a) || len(b[0]) != len(a) {
		t.Fatalf("P3.1: Invert(%v): %v, error %d", a, b, e)
	}
	if !equal(mul(a, b), unit(len(a))) || !equal(mul(b, a), unit(len(a))) {
		t.Fatalf("P3.1: Invert(%v): %v", a, b)
	}
}

func TestInvert(t *testing.T) {
	r := rand.New(rand.NewSource(4))
	for a := 1; a < 256; a++ {
		checkInverse(t, matrix.Matrix{{byte(a)}})
	}
	for _, n := range sizes {
		for range 5 {
			checkInverse(t, regular(r, n))
		}
		if b, e := matrix.Invert(field.New(), unit(n)); e != api.OK || !equal(b, unit(n)) {
			t.Errorf("P3.1: Invert of the unit matrix of size %d: %v, error %d", n, b, e)
		}
	}
	if b, e := matrix.Invert(field.New(), matrix.Matrix{{2}}); e != api.OK || !equal(b, [][]byte{{142}}) {
		t.Errorf("P3.1: Invert([[2]]): %v, error %d", b, e)
	}
	if b, e := matrix.Invert(field.New(), matrix.Matrix{{1, 2}, {0, 1}}); e != api.OK || !equal(b, [][]byte{{1, 2}, {0, 1}}) {
		t.Errorf("P3.1: Invert([[1 2] [0 1]]): %v, error %d", b, e)
	}
}

// TestInvertWithZeroPivots: rows have to be exchanged, with the next one, with
// the last one, at the beginning and after other columns have been finished.
func TestInvertWithZeroPivots(t *testing.T) {
	for _, a := range []matrix.Matrix{
		{{0, 1}, {1, 0}},
		{{0, 5}, {7, 0}},
		{{0, 5}, {7, 9}},
		{{0, 1, 0}, {0, 0, 1}, {1, 0, 0}},
		{{0, 0, 3}, {0, 4, 5}, {6, 7, 8}},
		{{1, 2, 3}, {1, 2, 4}, {1, 3, 3}},
		{{1, 0, 0}, {0, 0, 1}, {0, 1, 0}},
		{{0, 0, 0, 1}, {0, 0, 1, 0}, {0, 1, 0, 0}, {1, 0, 0, 0}},
		{{2, 4, 1, 1}, {1, 2, 1, 0}, {1, 2, 0, 2}, {0, 1, 1, 1}},
	} {
		if determinant(a) == 0 {
			t.Fatalf("the test's matrix %v has no inverse", a)
		}
		checkInverse(t, a)
	}
	r := rand.New(rand.NewSource(5))
	for _, n := range sizes {
		turned, order := zeros(n, n), zeros(n, n)
		for i, j := range r.Perm(n) {
			turned[i][n-1-i] = byte(1 + r.Intn(255))
			order[i][j] = byte(1 + r.Intn(255))
		}
		checkInverse(t, turned)
		checkInverse(t, order)
	}
}

// TestInvertOfEveryKind: many small matrices, with and without inverses, as
// their determinants tell.
func TestInvertOfEveryKind(t *testing.T) {
	f, r := field.New(), rand.New(rand.NewSource(6))
	numbers := []byte{0, 0, 0, 1, 1, 2, 4, 29, 255}
	for range 20000 {
		n := 1 + r.Intn(4)
		a := zeros(n, n)
		for _, row := range a {
			for j := range row {
				row[j] = numbers[r.Intn(len(numbers))]
			}
		}
		if determinant(a) != 0 {
			checkInverse(t, a)
		} else if b, e := matrix.Invert(f, a); len(b) != 0 || e != api.ErrSingular {
			t.Fatalf("P3.1: Invert(%v): %v, error %d", a, b, e)
		}
	}
}

func TestInvertOfSingular(t *testing.T) {
	f, r := field.New(), rand.New(rand.NewSource(7))
	check := func(what string, a matrix.Matrix) {
		t.Helper()
		if b, e := matrix.Invert(f, a); len(b) != 0 || e != api.ErrSingular {
			t.Errorf("P3.1: Invert of %s of size %d: %v, error %d", what, len(a), b, e)
		}
	}
	check("[[2 4] [4 8]]", matrix.Matrix{{2, 4}, {4, 8}})
	check("[[0 1] [0 2]]", matrix.Matrix{{0, 1}, {0, 2}})
	check("[[0 0] [1 2]]", matrix.Matrix{{0, 0}, {1, 2}})
	check("[[1 2 3] [4 5 6] [5 7 5]]", matrix.Matrix{{1, 2, 3}, {4, 5, 6}, {5, 7, 5}})
	for _, n := range sizes {
		check("zeros", zeros(n, n))
		for _, i := range []int{0, n / 2, n - 1} {
			row := regular(r, n)
			clear(row[i])
			check("one with a row of zeros", row)
			column := regular(r, n)
			for _, row := range column {
				row[i] = 0
			}
			check("one with a column of zeros", column)
			if n == 1 {
				continue
			}
			sum, other := regular(r, n), (i+1)%n
			clear(sum[i])
			for j, row := range sum {
				if j != i {
					for k, x := range row {
						sum[i][k] ^= times(byte(j+1), x)
					}
				}
			}
			check("one with a row that is a sum of the others", sum)
			same := regular(r, n)
			copy(same[i], same[other])
			check("one with equal rows", same)
			twice := regular(r, n)
			for _, row := range twice {
				row[i] = times(3, row[other])
			}
			check("one with a column that is a multiple of another one", twice)
		}
	}
}

// TestInvertOfNotSquare: they are not square before they have no inverse, and no matrices before that.
func TestInvertOfNotSquare(t *testing.T) {
	f, r := field.New(), rand.New(rand.NewSource(8))
	for _, n := range sizes {
		for _, m := range sizes {
			if n == m {
				continue
			}
			for _, a := range []matrix.Matrix{zeros(n, m), arbitrary(r, n, m)} {
				if b, e := matrix.Invert(f, a); len(b) != 0 || e != api.ErrLength {
					t.Errorf("P3.1: Invert of %d rows of %d numbers: %v, error %d", n, m, b, e)
				}
			}
		}
	}
	for what, a := range noMatrices() {
		if b, e := matrix.Invert(f, a); len(b) != 0 || e != api.ErrRange {
			t.Errorf("P3.1: Invert of %s: %v, error %d", what, b, e)
		}
	}
}

func TestApply(t *testing.T) {
	f, r := field.New(), rand.New(rand.NewSource(9))
	rows := [][]byte{{1, 0, 5}, {0, 1, 0}}
	if got, e := matrix.Apply(f, matrix.Matrix{{1, 2}, {3, 4}}, rows); e != api.OK || !equal(got, [][]byte{{1, 2, 5}, {3, 4, 15}}) {
		t.Errorf("P3.1: Apply: %v, error %d", got, e)
	}
	for _, n := range []int{1, 2, 3, 64} {
		for _, m := range []int{1, 2, 5, 64} {
			for _, length := range []int{1, 2, 63, 64, 65, 256, 1000} {
				a, rows := arbitrary(r, n, m), arbitrary(r, m, length)
				got, e := matrix.Apply(f, a, rows)
				if e != api.OK || !equal(got, mul(a, rows)) {
					t.Errorf("P3.1: Apply of %d rows of %d to rows of %d: error %d, or another product", n, m, length, e)
				}
			}
		}
		rows := arbitrary(r, n, 256)
		if got, e := matrix.Apply(f, unit(n), rows); e != api.OK || !equal(got, rows) {
			t.Errorf("P3.1: Apply of the unit matrix of size %d: %v, error %d", n, got, e)
		}
	}
}

// TestApplyToOneRowManyTimes: rows of bytes that are the same slice.
func TestApplyToOneRowManyTimes(t *testing.T) {
	row := []byte{1, 2, 3, 255}
	got, e := matrix.Apply(field.New(), matrix.Matrix{{1, 1}, {1, 2}}, [][]byte{row, row})
	if e != api.OK || !equal(got, [][]byte{{0, 0, 0, 0}, {3, 6, 5, times(3, 255)}}) {
		t.Errorf("P3.1: Apply: %v, error %d", got, e)
	}
}

func TestApplyToEmptyRows(t *testing.T) {
	f := field.New()
	for _, n := range sizes {
		for _, m := range sizes {
			for _, rows := range [][][]byte{zeros(m, 0), make([][]byte, m), arbitrary(rand.New(rand.NewSource(10)), m, 0)} {
				got, e := matrix.Apply(f, zeros(n, m), rows)
				if e != api.OK || !equal(got, zeros(n, 0)) {
					t.Errorf("P3.1: Apply of %d rows of %d to empty rows: %v, error %d", n, m, got, e)
				}
			}
		}
	}
	if got, e := matrix.Apply(f, unit(2), [][]byte{nil, {}}); e != api.OK || !equal(got, [][]byte{{}, {}}) {
		t.Errorf("P3.1, R5: Apply to nil and an empty row: %v, error %d", got, e)
	}
}

func TestApplyToOtherNumbersOfRows(t *testing.T) {
	f, r := field.New(), rand.New(rand.NewSource(11))
	for _, m := range sizes {
		for _, count := range append([]int{0, 65, 66, 300}, sizes...) {
			if count == m {
				continue
			}
			for _, n := range []int{1, 2, 64} {
				for _, length := range []int{0, 1, 64} {
					if got, e := matrix.Apply(f, arbitrary(r, n, m), arbitrary(r, count, length)); len(got) != 0 || e != api.ErrLength {
						t.Errorf("P3.1: Apply of %d rows of %d to %d rows: %v, error %d", n, m, count, got, e)
					}
				}
			}
		}
		if got, e := matrix.Apply(f, unit(m), nil); len(got) != 0 || e != api.ErrLength {
			t.Errorf("P3.1: Apply of %d columns to nil: %v, error %d", m, got, e)
		}
		spare := arbitrary(r, m+1, 4)[:m-1]
		if got, e := matrix.Apply(f, unit(m), spare); len(got) != 0 || e != api.ErrLength {
			t.Errorf("P3.1: Apply of %d columns to one row less, with spare ones: %v, error %d", m, got, e)
		}
	}
}

func TestApplyToRowsOfDifferentLengths(t *testing.T) {
	f := field.New()
	for _, m := range []int{2, 3, 64} {
		for i := range m {
			for _, length := range []int{0, 1, 3, 5, 6, 100} {
				rows := zeros(m, 4)
				rows[i] = make([]byte, length, 200)
				if got, e := matrix.Apply(f, unit(m), rows); len(got) != 0 || e != api.ErrLength {
					t.Errorf("P3.1: Apply to %d rows of 4, one of %d: %v, error %d", m, length, got, e)
				}
			}
			rows := zeros(m, 0)
			rows[i] = []byte{0}
			if got, e := matrix.Apply(f, unit(m), rows); len(got) != 0 || e != api.ErrLength {
				t.Errorf("P3.1: Apply to %d empty rows and one of 1: %v, error %d", m, got, e)
			}
		}
	}
}

// TestApplyOfNoMatrix: also to rows that do not fit either.
func TestApplyOfNoMatrix(t *testing.T) {
	f := field.New()
	for what, a := range noMatrices() {
		for _, rows := range [][][]byte{nil, {}, {nil}, {{}}, {{1}}, {{1, 2}, {3}}, zeros(2, 3), zeros(3, 3), zeros(64, 4), zeros(65, 4), zeros(63, 0)} {
			if got, e := matrix.Apply(f, a, rows); len(got) != 0 || e != api.ErrRange {
				t.Errorf("P3.1: Apply of %s to %d rows: %v, error %d", what, len(rows), got, e)
			}
		}
	}
}

func TestSame(t *testing.T) {
	r := rand.New(rand.NewSource(12))
	for _, n := range sizes {
		for _, m := range sizes {
			a := arbitrary(r, n, m)
			if !matrix.Same(a, a) || !matrix.Same(a, clone(a)) || !matrix.Same(clone(a), a) {
				t.Errorf("P3.1: Same: %d rows of %d numbers differ from themselves", n, m)
			}
			for _, i := range []int{0, n / 2, n - 1} {
				for _, j := range []int{0, m / 2, m - 1} {
					b := clone(a)
					b[i][j] ^= 1 << r.Intn(8)
					if matrix.Same(a, b) || matrix.Same(b, a) {
						t.Errorf("P3.1: Same: %d rows of %d numbers, with another one in row %d and column %d", n, m, i, j)
					}
				}
			}
		}
	}
}

func TestSameOfOtherSizes(t *testing.T) {
	for _, c := range []struct{ a, b matrix.Matrix }{
		{unit(1), unit(2)},
		{zeros(1, 2), zeros(2, 1)},
		{zeros(1, 4), zeros(2, 2)},
		{zeros(2, 3), zeros(2, 4)},
		{zeros(3, 2), zeros(4, 2)},
		{matrix.Matrix{{1, 2}, {3, 4}}, matrix.Matrix{{1, 2}}},
		{matrix.Matrix{{1, 2}, {3, 4}}, matrix.Matrix{{3, 4}, {1, 2}}},
		{matrix.Matrix{{1, 2}, {3, 4}}, matrix.Matrix{{1, 3}, {2, 4}}},
		{matrix.Matrix{{1, 2}}, matrix.Matrix{{1, 2, 0}}},
		{unit(2), nil},
		// What is no matrix is compared row by row as well.
		{matrix.Matrix{{1, 2}, {3}}, matrix.Matrix{{1}, {2, 3}}},
		{matrix.Matrix{{1, 2}, {3}}, matrix.Matrix{{1, 2}, {3, 0}}},
		{matrix.Matrix{{}}, nil},
		{zeros(65, 1), zeros(64, 1)},
	} {
		if matrix.Same(c.a, c.b) || matrix.Same(c.b, c.a) {
			t.Errorf("P3.1: Same(%v, %v)", c.a, c.b)
		}
	}
	for what, a := range noMatrices() {
		if !matrix.Same(a, clone(a)) {
			t.Errorf("P3.1: Same: %s differs from itself", what)
		}
	}
	if !matrix.Same(nil, matrix.Matrix{}) || !matrix.Same(matrix.Matrix{nil, {}}, matrix.Matrix{{}, nil}) {
		t.Error("P3.1, R5: Same: nil and empty slices differ")
	}
	if !matrix.Same(unit(64)[:2], unit(64)[:2:2]) {
		t.Error("P3.1: Same: spare capacity counts")
	}
}

// submatrix returns the numbers in some rows and columns.
func submatrix(a matrix.Matrix, rows, columns []int) matrix.Matrix {
	s := zeros(len(rows), len(columns))
	for i, r := range rows {
		for j, c := range columns {
			s[i][j] = a[r][c]
		}
	}
	return s
}

// choices returns each list of n of the numbers below of, in increasing order.
func choices(n, of int) [][]int {
	if n == 0 {
		return [][]int{nil}
	}
	var l [][]int
	for last := n - 1; last < of; last++ {
		for _, c := range choices(n-1, last) {
			l = append(l, append(c, last))
		}
	}
	return l
}

func TestEachSmallSubmatrixOfCauchy(t *testing.T) {
	for k := 1; k <= 5; k++ {
		for m := 1; m <= 5; m++ {
			c, _ := matrix.Cauchy(k, m)
			for n := 1; n <= min(k, m); n++ {
				for _, rows := range choices(n, m) {
					for _, columns := range choices(n, k) {
						s := submatrix(c, rows, columns)
						if determinant(s) == 0 {
							t.Fatalf("P3.2: Cauchy(%d, %d): rows %v and columns %v have no inverse", k, m, rows, columns)
						}
						checkInverse(t, s)
					}
				}
			}
		}
	}
}

// TestSubmatricesOfGreatCauchy: all numbers and all pairs of the greatest one,
// and some of each other size.
func TestSubmatricesOfGreatCauchy(t *testing.T) {
	c, _ := matrix.Cauchy(64, 64)
	if len(c) != 64 {
		t.Fatalf("P3.1: Cauchy(64, 64): %d rows", len(c))
	}
	pairs := choices(2, 64)
	for _, rows := range pairs {
		for _, columns := range pairs {
			s := submatrix(c, rows, columns)
			if times(s[0][0], s[1][1]) == times(s[0][1], s[1][0]) || s[0][0] == 0 {
				t.Fatalf("P3.2: Cauchy(64, 64): rows %v and columns %v have no inverse", rows, columns)
			}
		}
	}
	r := rand.New(rand.NewSource(13))
	for n := 1; n <= 64; n++ {
		for range 3 {
			rows, columns := r.Perm(64)[:n], r.Perm(64)[:n]
			slices.Sort(rows)
			slices.Sort(columns)
			checkInverse(t, submatrix(c, rows, columns))
		}
	}
}

func TestSubmatricesOfCauchyOfEachSize(t *testing.T) {
	r := rand.New(rand.NewSource(14))
	for k := 1; k <= 64; k += 3 {
		for m := 1; m <= 64; m += 3 {
			c, _ := matrix.Cauchy(k, m)
			n := 1 + r.Intn(min(k, m, 20))
			rows, columns := r.Perm(m)[:n], r.Perm(k)[:n]
			slices.Sort(rows)
			slices.Sort(columns)
			checkInverse(t, submatrix(c, rows, columns))
		}
	}
}

// roomy copies rows into slices with spare rows and spare bytes, and returns
// the copy and a function that tells whether any of that has been modified.
func roomy(a [][]byte) ([][]byte, func() bool) {
	whole := make([][]byte, len(a)+3)
	for i := range whole {
		whole[i] = bytes.Repeat([]byte{0xa5}, 200)
		if i < len(a) {
			whole[i] = append(slices.Clone(a[i]), whole[i]...)
		}
	}
	was := clone(whole)
	rows := whole[:len(a)]
	for i := range rows {
		rows[i] = rows[i][:len(a[i])]
	}
	modified := func() bool {
		for i, row := range whole {
			if cap(row) < len(was[i]) || !bytes.Equal(row[:len(was[i])], was[i]) || i < len(a) && len(row) != len(a[i]) {
				return true
			}
		}
		return false
	}
	return rows, modified
}

// scribble overwrites rows, with all their spare capacity.
func scribble(a [][]byte) {
	a = a[:cap(a)]
	for i, row := range a {
		row = row[:cap(row)]
		for j := range row {
			row[j] ^= 0x5a
		}
		a[i] = nil
	}
}

// calls are those that return rows, on matrices that fit and that do not fit.
func calls(f *field.Field) map[string]func(a, b [][]byte) [][]byte {
	return map[string]func(a, b [][]byte) [][]byte{
		"Mul":         func(a, b [][]byte) [][]byte { c, _ := matrix.Mul(f, a, b); return c },
		"Mul by self": func(a, b [][]byte) [][]byte { c, _ := matrix.Mul(f, a, a); return c },
		"Apply":       func(a, b [][]byte) [][]byte { c, _ := matrix.Apply(f, a, b); return c },
		"Apply self":  func(a, b [][]byte) [][]byte { c, _ := matrix.Apply(f, b, b); return c },
		"Invert":      func(a, b [][]byte) [][]byte { c, _ := matrix.Invert(f, a); return c },
		"Good":        func(a, b [][]byte) [][]byte { matrix.Good(a); matrix.Good(b); return nil },
		"Same":        func(a, b [][]byte) [][]byte { matrix.Same(a, b); matrix.Same(b, a); return nil },
		"Unit":        func(a, b [][]byte) [][]byte { c, _ := matrix.Unit(len(a)); return c },
		"Cauchy":      func(a, b [][]byte) [][]byte { c, _ := matrix.Cauchy(len(a), len(b)); return c },
	}
}

// pairs are arguments of calls: of all sizes, singular, that do not fit, and none.
func pairs() [][2][][]byte {
	r := rand.New(rand.NewSource(15))
	l := [][2][][]byte{
		{unit(1), unit(1)}, {unit(2), unit(2)}, {unit(3), zeros(3, 0)}, {unit(64), unit(64)},
		{zeros(3, 3), zeros(3, 9)}, {{{0, 1}, {1, 0}}, {{1, 2}, {3, 4}}}, {zeros(2, 3), zeros(4, 5)},
		{{{1, 2}, {3}}, {{1}, {2, 3}}}, {nil, nil}, {zeros(65, 2), zeros(2, 65)},
	}
	for _, n := range []int{1, 2, 3, 20, 64} {
		l = append(l, [2][][]byte{regular(r, n), arbitrary(r, n, 7)}, [2][][]byte{regular(r, n), arbitrary(r, n+1, n)})
	}
	return l
}

// TestArgumentsAreNotModified: nor is their spare capacity, nor by one who changes a result.
func TestArgumentsAreNotModified(t *testing.T) {
	f := field.New()
	for what, call := range calls(f) {
		for i, p := range pairs() {
			a, changedA := roomy(p[0])
			b, changedB := roomy(p[1])
			result := call(a, b)
			if changedA() || changedB() {
				t.Errorf("P3.1, R6: %s of pair %d modifies an argument", what, i)
			}
			scribble(result)
			if changedA() || changedB() {
				t.Errorf("P3.1, R6: %s of pair %d: the result shares memory with an argument", what, i)
			}
		}
	}
}

// TestResultsAreNewMemory: no row shares memory with another one, with another result or with an argument.
func TestResultsAreNewMemory(t *testing.T) {
	f := field.New()
	for what, call := range calls(f) {
		for i, p := range pairs() {
			a, b := clone(p[0]), clone(p[1])
			result, again := call(a, b), call(a, b)
			if !equal(result, again) {
				t.Errorf("R8: %s of pair %d is different the second time", what, i)
			}
			want := clone(result)
			scribble(a)
			scribble(b)
			scribble(again)
			if !equal(result, want) {
				t.Errorf("P3.1, R6: %s of pair %d: the result shares memory", what, i)
			}
			for j, row := range result {
				clear(row[:cap(row)])
				for k := j + 1; k < len(result); k++ {
					if !bytes.Equal(result[k], want[k]) {
						t.Fatalf("P3.1, R6: %s of pair %d: rows %d and %d share memory", what, i, j, k)
					}
				}
			}
		}
	}
}

// TestFailedCallsChangeNothing: the field answers as before.
func TestFailedCallsChangeNothing(t *testing.T) {
	used := field.New()
	for what, call := range calls(used) {
		for i, p := range pairs() {
			first := call(clone(p[0]), clone(p[1]))
			if want := calls(field.New())[what](clone(p[0]), clone(p[1])); !equal(first, want) {
				t.Errorf("R4, R8: %s of pair %d with a used field: %v instead of %v", what, i, first, want)
			}
		}
	}
}
