package gauge_test

import (
	"math"
	"math/big"
	"math/rand"
	"slices"
	"testing"

	"darner/gauge"
)

// The classes, by their numbers in the chapter.
const (
	negativeInfinity = iota
	negative
	negativeZero
	positiveZero
	positive
	positiveInfinity
	nan
)

// The bits of a float64: its sign, its exponent, its fraction.
const (
	sign     = 1 << 63
	exponent = 0x7ff << 52
	fraction = 1<<52 - 1
)

// minusZero is computed: the constant -0.0 is positive zero.
var minusZero = math.Copysign(0, -1)

// nans differ in their bits: of either sign, quiet and signalling ones, those of
// the smallest and the greatest bits, and those of math.NaN and of a division.
func nans() []float64 {
	none := 0.0
	l := []float64{math.NaN(), none / none, -(none / none), math.Inf(1) - math.Inf(1)}
	for _, bits := range []uint64{1, 2, 1<<51 - 1, 1 << 51, 1<<51 + 1, 1<<51 + 77, fraction - 1, fraction} {
		l = append(l, math.Float64frombits(exponent|bits), math.Float64frombits(sign|exponent|bits))
	}
	return l
}

// finite are positive numbers in increasing order: some that are not normal, the
// smallest one first, then normal ones up to the greatest one.
func finite() []float64 {
	normal := math.Float64frombits(1 << 52)
	return []float64{
		math.SmallestNonzeroFloat64, 2 * math.SmallestNonzeroFloat64, normal / 2, math.Nextafter(normal, 0),
		normal, math.Nextafter(normal, 1), 1e-300, 0.1, 0.5, math.Nextafter(1, 0), 1, math.Nextafter(1, 2),
		2, 1e9, 1 << 53, 1<<53 + 2, 1 << 63, 1e300, math.Nextafter(math.MaxFloat64, 0), math.MaxFloat64,
	}
}

// A step has equivalent measures, and their class.
type step struct {
	class    int
	measures []float64
}

// steps are in the order: each one's measures are before those of later ones.
func steps() []step {
	l := []step{{negativeInfinity, []float64{math.Inf(-1)}}}
	for _, x := range slices.Backward(finite()) {
		l = append(l, step{negative, []float64{-x}})
	}
	l = append(l, step{negativeZero, []float64{minusZero}}, step{positiveZero, []float64{0}})
	for _, x := range finite() {
		l = append(l, step{positive, []float64{x}})
	}
	return append(l, step{positiveInfinity, []float64{math.Inf(1)}}, step{nan, nans()})
}

// measures are those of all steps, in the order.
func measures() []float64 {
	var l []float64
	for _, s := range steps() {
		l = append(l, s.measures...)
	}
	return l
}

// rank numbers the measures in the order by their bits alone.
func rank(x float64) uint64 {
	bits := math.Float64bits(x)
	switch {
	case bits&exponent == exponent && bits&fraction != 0:
		return math.MaxUint64
	case bits&sign != 0:
		return ^bits
	}
	return bits | sign
}

// inOrder returns the measures in the order of their ranks, each behind those
// of the same rank that were ahead of it.
func inOrder(l []float64) []float64 {
	var sorted []float64
	for _, x := range l {
		at := len(sorted)
		for at > 0 && rank(sorted[at-1]) > rank(x) {
			at--
		}
		sorted = slices.Insert(sorted, at, x)
	}
	return sorted
}

// same compares bits, which also tells NaNs and zeros apart.
func same(a, b float64) bool {
	return math.Float64bits(a) == math.Float64bits(b)
}

func allSame(a, b []float64) bool {
	return slices.EqualFunc(a, b, same)
}

// arbitrary returns n measures of few different ones, among them all kinds.
func arbitrary(r *rand.Rand, n int) []float64 {
	all, l := measures(), make([]float64, n)
	for i := range l {
		switch r.Intn(3) {
		case 0:
			l[i] = all[r.Intn(len(all))]
		case 1:
			l[i] = float64(r.Intn(7) - 3)
		case 2:
			l[i] = math.Float64frombits(r.Uint64())
		}
	}
	return l
}

func TestClassOfKnownMeasures(t *testing.T) {
	for _, s := range steps() {
		for _, x := range s.measures {
			if got := gauge.Class(x); got != s.class {
				t.Errorf("P5.1: Class(%v), bits %x: %d instead of %d", x, math.Float64bits(x), got, s.class)
			}
		}
	}
	for want, x := range []float64{math.Inf(-1), -1, minusZero, 0, 1, math.Inf(1), math.NaN()} {
		if got := gauge.Class(x); got != want {
			t.Errorf("P5.1: Class(%v): %d instead of %d", x, got, want)
		}
	}
}

// classOf tells the class by bits alone.
func classOf(bits uint64) int {
	size := bits &^ sign
	class := []int{positiveZero, positive, positiveInfinity, nan}
	if bits&sign != 0 {
		class = []int{negativeZero, negative, negativeInfinity, nan}
	}
	switch {
	case size == 0:
		return class[0]
	case size < exponent:
		return class[1]
	case size == exponent:
		return class[2]
	}
	return class[3]
}

// TestClassOfEachExponent: with fractions at the edges and one arbitrary one, of
// either sign.
func TestClassOfEachExponent(t *testing.T) {
	r := rand.New(rand.NewSource(1))
	for power := range uint64(0x800) {
		for _, low := range []uint64{0, 1, 2, 1 << 51, fraction - 1, fraction, r.Uint64() & fraction} {
			for _, bits := range []uint64{power<<52 | low, sign | power<<52 | low} {
				if got := gauge.Class(math.Float64frombits(bits)); got != classOf(bits) {
					t.Errorf("P5.1: Class of the bits %x: %d instead of %d", bits, got, classOf(bits))
				}
			}
		}
	}
}

// TestLessOfEveryPair: also of one measure twice, and of equivalent ones.
func TestLessOfEveryPair(t *testing.T) {
	for i, s := range steps() {
		for k, o := range steps() {
			for _, a := range s.measures {
				for _, b := range o.measures {
					if got := gauge.Less(a, b); got != (i < k) {
						t.Errorf("P5.1: Less(%v, %v): %t", a, b, got)
					}
				}
			}
		}
	}
}

func TestLessOfArbitraryBits(t *testing.T) {
	r := rand.New(rand.NewSource(2))
	for range 200000 {
		a := r.Uint64()
		// The other one: anything, or close to the first one.
		b := []uint64{r.Uint64(), a, a + 1, a ^ sign, a | exponent, a &^ exponent}[r.Intn(6)]
		x, y := math.Float64frombits(a), math.Float64frombits(b)
		if gauge.Less(x, y) != (rank(x) < rank(y)) || gauge.Less(y, x) != (rank(y) < rank(x)) {
			t.Fatalf("P5.1: Less of the bits %x and %x: %t, exchanged: %t", a, b, gauge.Less(x, y), gauge.Less(y, x))
		}
	}
}

func TestSortedOfKnownMeasures(t *testing.T) {
	n := nans()
	for _, c := range []struct{ l, want []float64 }{
		{[]float64{7}, []float64{7}},
		{n[4:5], n[4:5]},
		{[]float64{2, 1}, []float64{1, 2}},
		{[]float64{1, 2}, []float64{1, 2}},
		{[]float64{3, 1, 2}, []float64{1, 2, 3}},
		{[]float64{-1, -3, -2}, []float64{-3, -2, -1}},
		{[]float64{0, minusZero}, []float64{minusZero, 0}},
		{[]float64{minusZero, 0}, []float64{minusZero, 0}},
		{[]float64{0, minusZero, 0, minusZero, minusZero, 0}, []float64{minusZero, minusZero, minusZero, 0, 0, 0}},
		{[]float64{0, 1, minusZero, -1, 0, minusZero}, []float64{-1, minusZero, minusZero, 0, 0, 1}},
		{[]float64{n[0], 1}, []float64{1, n[0]}},
		{[]float64{1, n[0]}, []float64{1, n[0]}},
		{[]float64{n[5], math.Inf(1), n[3]}, []float64{math.Inf(1), n[5], n[3]}},
		{[]float64{2, n[9], 1, n[6], 2, n[7], 1, n[8]}, []float64{1, 1, 2, 2, n[9], n[6], n[7], n[8]}},
		{[]float64{n[0], 3, math.Inf(1), 0, minusZero, -2, math.Inf(-1)}, []float64{math.Inf(-1), -2, minusZero, 0, 3, math.Inf(1), n[0]}},
		{[]float64{5, 5, 5, 5}, []float64{5, 5, 5, 5}},
	} {
		if got := gauge.Sorted(c.l...); !allSame(got, c.want) {
			t.Errorf("P5.1: Sorted(%v): %v instead of %v", c.l, got, c.want)
		}
	}
	if got := gauge.Sorted(3, 1, 2); !allSame(got, []float64{1, 2, 3}) {
		t.Errorf("P5.1: Sorted(3, 1, 2): %v", got)
	}
}

func TestSortedOfNothing(t *testing.T) {
	for what, got := range map[string][]float64{
		"no arguments":     gauge.Sorted(),
		"nil":              gauge.Sorted([]float64(nil)...),
		"an empty list":    gauge.Sorted([]float64{}...),
		"spare capacity":   gauge.Sorted(make([]float64, 0, 9)...),
		"an unused slice":  gauge.Sorted([]float64{3, 2, 1}[:0]...),
		"a list's far end": gauge.Sorted([]float64{3, 2, 1}[3:]...),
	} {
		if len(got) != 0 {
			t.Errorf("P5.1, R5: Sorted of %s: %v", what, got)
		}
	}
}

// TestSortedOfNaNs: equivalent measures keep their original order; among NaNs
// their bits show it.
func TestSortedOfNaNs(t *testing.T) {
	r := rand.New(rand.NewSource(3))
	for _, n := range []int{1, 2, 3, 11, 12, 13, 20, 21, 50, 200, 1000} {
		l := make([]float64, n)
		for i, low := range r.Perm(n) {
			l[i] = math.Float64frombits(exponent | uint64(i%2)<<63 | uint64(i%3%2)<<51 | uint64(low+1))
		}
		if got := gauge.Sorted(l...); !allSame(got, l) {
			t.Errorf("P5.1: Sorted of %d NaNs: another order, or other bits", n)
		}
		var mixed, want []float64
		for i, x := range l {
			mixed = append(mixed, x, float64(i%5))
		}
		for i := range 5 {
			want = append(want, slices.Repeat([]float64{float64(i)}, (n-i+4)/5)...)
		}
		if got := gauge.Sorted(mixed...); !allSame(got, append(want, l...)) {
			t.Errorf("P5.1: Sorted of %d NaNs, with numbers between them: %v", n, got)
		}
	}
}

// TestSortedOfArbitraryLists: of each length up to a hundred, of a list that is
// sorted already, and of one in the opposite order.
func TestSortedOfArbitraryLists(t *testing.T) {
	r := rand.New(rand.NewSource(4))
	for n := range 101 {
		for range 10 {
			l := arbitrary(r, n)
			want := inOrder(l)
			if got := gauge.Sorted(l...); !allSame(got, want) {
				t.Fatalf("P5.1: Sorted(%v): %v instead of %v", l, got, want)
			}
			if got := gauge.Sorted(want...); !allSame(got, want) {
				t.Fatalf("P5.1: Sorted of the sorted %v: %v", want, got)
			}
			slices.Reverse(l)
			if got := gauge.Sorted(l...); !allSame(got, inOrder(l)) {
				t.Fatalf("P5.1: Sorted(%v): %v instead of %v", l, got, inOrder(l))
			}
		}
	}
	if got, all := gauge.Sorted(measures()...), measures(); !allSame(got, all) {
		t.Errorf("P5.1: Sorted of all measures in the order: %v", got)
	}
}

func TestSortedOfMany(t *testing.T) {
	r := rand.New(rand.NewSource(5))
	for _, n := range []int{1000, 4096, 100000} {
		l := arbitrary(r, n)
		want := slices.Clone(l)
		slices.SortStableFunc(want, func(a, b float64) int {
			switch {
			case rank(a) < rank(b):
				return -1
			case rank(a) > rank(b):
				return 1
			}
			return 0
		})
		if got := gauge.Sorted(l...); !allSame(got, want) {
			t.Errorf("P5.1: Sorted of %d measures: another order", n)
		}
		if got := gauge.Worst(l...); !same(got, want[0]) {
			t.Errorf("P5.1: Worst of %d measures: %v instead of %v", n, got, want[0])
		}
		if got := gauge.Middle(l...); !same(got, want[n/2]) {
			t.Errorf("P5.1: Middle of %d measures: %v instead of %v", n, got, want[n/2])
		}
	}
}

// edges are numbers at which an int, or a float64 that is to hold it, ends, and
// their neighbours, and small ones.
func edges() []int {
	var l []int
	for _, n := range []int{0, 3, 7, 100, 1 << 24, 1 << 31, 1 << 32, 1 << 52, 1 << 53, 1 << 54, 1<<54 + 2, 1 << 60, 1 << 62, math.MaxInt - 512, math.MaxInt - 2} {
		for _, near := range []int{n - 1, n, n + 1, n + 2} {
			l = append(l, near, -near)
		}
	}
	return append(l, math.MinInt, math.MinInt+1, math.MinInt+512, math.MinInt+513)
}

// nearest is an int as a float64, computed without the processor's floats.
func nearest(n int) *big.Float {
	return new(big.Float).SetPrec(53).SetMode(big.ToNearestEven).SetInt64(int64(n))
}

// TestRateOfEveryPair: of numbers at the edges, none of them twice 0.
func TestRateOfEveryPair(t *testing.T) {
	for _, good := range edges() {
		for _, all := range edges() {
			if good == 0 && all == 0 {
				continue
			}
			want, _ := new(big.Float).SetPrec(53).Quo(nearest(good), nearest(all)).Float64()
			if got := gauge.Rate(good, all); !same(got, want) {
				t.Errorf("P5.1: Rate(%d, %d): %v instead of %v", good, all, got, want)
			}
		}
	}
}

func TestRateOfKnownNumbers(t *testing.T) {
	for _, c := range []struct {
		good, all int
		want      float64
	}{
		{3, 4, 0.75}, {4, 4, 1}, {1, 1, 1}, {0, 4, 0}, {7, 2, 3.5}, {1, 3, 0.3333333333333333}, {2, 3, 0.6666666666666666},
		{-3, 4, -0.75}, {3, -4, -0.75}, {-3, -4, 0.75}, {-1, -1, 1},
		{0, -1, minusZero}, {0, -4, minusZero}, {0, math.MinInt, minusZero}, {0, math.MaxInt, 0},
		{1, 0, math.Inf(1)}, {5, 0, math.Inf(1)}, {math.MaxInt, 0, math.Inf(1)},
		{-1, 0, math.Inf(-1)}, {-5, 0, math.Inf(-1)}, {math.MinInt, 0, math.Inf(-1)},
		{math.MaxInt, 1, 1 << 63}, {math.MinInt, 1, -1 << 63}, {math.MinInt, -1, 1 << 63},
		{math.MaxInt, math.MaxInt, 1}, {math.MaxInt - 1, math.MaxInt, 1}, {math.MaxInt, math.MinInt, -1}, {1, math.MaxInt, 1.0 / (1 << 63)},
		{1<<53 + 1, 1, 1 << 53}, {1<<53 + 2, 1, 1<<53 + 2}, {1<<53 + 3, 1, 1<<53 + 4}, {-1<<53 - 1, 1, -1 << 53},
		// The quotient of these ints would be 3002399751580331.
		{1<<53 + 1, 3, 3002399751580330.5},
	} {
		if got := gauge.Rate(c.good, c.all); !same(got, c.want) {
			t.Errorf("P5.1: Rate(%d, %d): %v instead of %v", c.good, c.all, got, c.want)
		}
	}
	if got := gauge.Rate(0, 0); !math.IsNaN(got) {
		t.Errorf("P5.1: Rate(0, 0): %v", got)
	}
}

func TestSinceNever(t *testing.T) {
	for _, then := range edges() {
		for _, now := range edges() {
			got := gauge.Since(then, now)
			if then < 0 && !math.IsInf(got, 1) || then >= 0 && math.IsInf(got, 0) {
				t.Errorf("P5.1: Since(%d, %d): %v", then, now, got)
			}
		}
	}
}

// wrapped is the difference of two ints modulo 2^64, as an int.
func wrapped(a, b int) int {
	d := new(big.Int).Sub(big.NewInt(int64(a)), big.NewInt(int64(b)))
	modulus := new(big.Int).Lsh(big.NewInt(1), 64)
	if d.Mod(d, modulus); d.Bit(63) == 1 {
		d.Sub(d, modulus)
	}
	return int(d.Int64())
}

func TestSinceOfEveryPair(t *testing.T) {
	for _, then := range edges() {
		for _, now := range edges() {
			if then < 0 {
				continue
			}
			want, _ := nearest(wrapped(now, then)).Float64()
			if got := gauge.Since(then, now); !same(got, want) {
				t.Errorf("P5.1: Since(%d, %d): %v instead of %v", then, now, got, want)
			}
		}
	}
}

func TestSinceOfKnownTimes(t *testing.T) {
	for _, c := range []struct {
		then, now int
		want      float64
	}{
		{5, 9, 4}, {9, 5, -4}, {5, 5, 0}, {0, 0, 0}, {0, 7, 7}, {7, 0, -7}, {3, -4, -7}, {0, -1, -1},
		{-1, 5, math.Inf(1)}, {-1, -1, math.Inf(1)}, {-1, -9, math.Inf(1)}, {-9, -1, math.Inf(1)}, {-1, 0, math.Inf(1)},
		{-1, math.MaxInt, math.Inf(1)}, {-1, math.MinInt, math.Inf(1)}, {math.MinInt, 0, math.Inf(1)}, {math.MinInt, math.MinInt, math.Inf(1)},
		{0, math.MaxInt, 1 << 63}, {math.MaxInt, 0, -1 << 63}, {math.MaxInt, math.MaxInt, 0}, {0, math.MinInt, -1 << 63},
		// The last ones whose difference is an int, and the first ones where it wraps around.
		{math.MaxInt, -1, -1 << 63}, {math.MaxInt, -2, 1 << 63}, {1, math.MinInt + 1, -1 << 63}, {1, math.MinInt, 1 << 63},
		{math.MaxInt, math.MinInt, 1}, {math.MaxInt - 4, math.MinInt, 5}, {math.MaxInt, math.MinInt + 4, 5},
		// The difference is taken before anything is rounded.
		{1 << 60, 1<<60 + 1, 1}, {1<<53 + 1, 1<<53 + 2, 1}, {math.MaxInt - 3, math.MaxInt, 3}, {math.MaxInt, math.MaxInt - 3, -3},
		{0, 1<<53 + 1, 1 << 53}, {1, 1<<53 + 2, 1 << 53}, {0, 1<<53 + 3, 1<<53 + 4},
	} {
		if got := gauge.Since(c.then, c.now); !same(got, c.want) {
			t.Errorf("P5.1: Since(%d, %d): %v instead of %v", c.then, c.now, got, c.want)
		}
	}
}

func TestWorstAndMiddleOfNothing(t *testing.T) {
	for what, got := range map[string]float64{
		"Worst()":                    gauge.Worst(),
		"Worst of nil":               gauge.Worst([]float64(nil)...),
		"Worst of an empty list":     gauge.Worst([]float64{}...),
		"Worst of an unused slice":   gauge.Worst([]float64{3, 2}[:0]...),
		"Middle()":                   gauge.Middle(),
		"Middle of nil":              gauge.Middle([]float64(nil)...),
		"Middle of an empty list":    gauge.Middle([]float64{}...),
		"Middle of an unused slice":  gauge.Middle([]float64{3, 2}[:0]...),
		"Middle of a list's far end": gauge.Middle([]float64{3, 2}[2:]...),
	} {
		if !math.IsNaN(got) {
			t.Errorf("P5.1: %s: %v", what, got)
		}
	}
}

func TestWorstAndMiddleOfKnownMeasures(t *testing.T) {
	n, inf := nans(), math.Inf(1)
	for _, c := range []struct {
		l             []float64
		worst, middle float64
	}{
		{[]float64{7}, 7, 7},
		{[]float64{minusZero}, minusZero, minusZero},
		{[]float64{n[6]}, n[6], n[6]},
		{[]float64{inf}, inf, inf},
		{[]float64{2, 1}, 1, 2},
		{[]float64{1, 2}, 1, 2},
		{[]float64{0, minusZero}, minusZero, 0},
		{[]float64{minusZero, 0}, minusZero, 0},
		{[]float64{n[6], 4}, 4, n[6]},
		{[]float64{4, n[6]}, 4, n[6]},
		{[]float64{n[6], n[7]}, n[6], n[7]},
		{[]float64{n[7], n[6]}, n[7], n[6]},
		{[]float64{5, 1, 3}, 1, 3},
		{[]float64{4, n[6], 2}, 2, 4},
		{[]float64{n[6], inf, n[7]}, inf, n[6]},
		{[]float64{n[8], n[7], n[6]}, n[8], n[7]},
		{[]float64{5, 1, 3, 9}, 1, 5},
		{[]float64{0, minusZero, 0, minusZero}, minusZero, 0},
		{[]float64{n[6], 2, n[7], 1}, 1, n[6]},
		{[]float64{n[6], 2, n[7], -inf}, -inf, n[6]},
		{[]float64{n[6], 3, 2, 1}, 1, 3},
		{[]float64{n[9], n[8], n[7], n[6]}, n[9], n[7]},
		{[]float64{n[9], n[8], n[7], 6}, 6, n[8]},
	} {
		if got := gauge.Worst(c.l...); !same(got, c.worst) {
			t.Errorf("P5.1: Worst(%v): %v instead of %v", c.l, got, c.worst)
		}
		if got := gauge.Middle(c.l...); !same(got, c.middle) {
			t.Errorf("P5.1: Middle(%v): %v instead of %v", c.l, got, c.middle)
		}
	}
	if gauge.Worst(4, math.NaN(), 2) != 2 || gauge.Middle(4, math.NaN(), 2) != 4 {
		t.Errorf("P5.1: Worst(4, NaN, 2): %v, Middle: %v", gauge.Worst(4, math.NaN(), 2), gauge.Middle(4, math.NaN(), 2))
	}
}

// TestWorstAndMiddleOfFew: of each list of at most four of measures of all
// classes.
func TestWorstAndMiddleOfFew(t *testing.T) {
	few := append([]float64{math.Inf(-1), -2, -1, minusZero, 0, 1, 2, math.Inf(1)}, nans()[5:8]...)
	check := func(l []float64) {
		t.Helper()
		sorted := inOrder(l)
		if got := gauge.Worst(l...); !same(got, sorted[0]) {
			t.Errorf("P5.1: Worst(%v): %v instead of %v", l, got, sorted[0])
		}
		if got := gauge.Middle(l...); !same(got, sorted[len(l)/2]) {
			t.Errorf("P5.1: Middle(%v): %v instead of %v", l, got, sorted[len(l)/2])
		}
	}
	for _, a := range few {
		check([]float64{a})
		for _, b := range few {
			check([]float64{a, b})
			for _, c := range few {
				check([]float64{a, b, c})
				for _, d := range few {
					check([]float64{a, b, c, d})
				}
			}
		}
	}
}

func TestWorstAndMiddleOfArbitraryLists(t *testing.T) {
	r := rand.New(rand.NewSource(6))
	for n := 1; n <= 60; n++ {
		for range 20 {
			l := arbitrary(r, n)
			sorted := inOrder(l)
			if got := gauge.Worst(l...); !same(got, sorted[0]) {
				t.Fatalf("P5.1: Worst(%v): %v instead of %v", l, got, sorted[0])
			}
			if got := gauge.Middle(l...); !same(got, sorted[n/2]) {
				t.Fatalf("P5.1: Middle(%v): %v instead of %v", l, got, sorted[n/2])
			}
		}
	}
}

// The functions of lists, each with the list that it returns, if any.
func listFunctions() map[string]func(l []float64) []float64 {
	return map[string]func(l []float64) []float64{
		"Sorted": func(l []float64) []float64 { return gauge.Sorted(l...) },
		"Worst":  func(l []float64) []float64 { gauge.Worst(l...); return nil },
		"Middle": func(l []float64) []float64 { gauge.Middle(l...); return nil },
	}
}

// TestArgumentsAreNotModified: nor what is ahead of them and behind them, nor by
// one who changes a result.
func TestArgumentsAreNotModified(t *testing.T) {
	r := rand.New(rand.NewSource(7))
	for name, call := range listFunctions() {
		for _, n := range []int{0, 1, 2, 3, 4, 11, 12, 13, 20, 21, 100, 1000} {
			whole := arbitrary(r, n+40)
			for _, was := range [][]float64{whole, gauge.Sorted(whole...)} {
				whole := slices.Clone(was)
				result := call(whole[10 : n+10])
				if !allSame(whole, was) {
					t.Fatalf("P5.1, R6: %s of %d measures: an argument is modified", name, n)
				}
				result = result[:cap(result)]
				for i := range result {
					result[i] = 12345
				}
				if !allSame(whole, was) {
					t.Fatalf("P5.1, R6: %s of %d measures: the result shares memory with an argument", name, n)
				}
			}
		}
	}
}

// TestResultsAreNewMemory: what becomes of arguments or of other results does not
// show in a result.
func TestResultsAreNewMemory(t *testing.T) {
	r := rand.New(rand.NewSource(8))
	for _, n := range []int{0, 1, 2, 3, 12, 13, 100} {
		whole := gauge.Sorted(arbitrary(r, n+20)...)
		l := whole[:n]
		want := inOrder(l)
		got, again := gauge.Sorted(l...), gauge.Sorted(l...)
		of := gauge.Sorted(got...)
		clear(whole)
		clear(again[:cap(again)])
		clear(of[:cap(of)])
		if !allSame(got, want) {
			t.Errorf("P5.1, R6: Sorted of %d measures: the result shares memory", n)
		}
		_ = append(l[:0], slices.Repeat([]float64{12345}, cap(l))...)
		if !allSame(got, want) {
			t.Errorf("P5.1, R6: Sorted of %d measures: the result shares spare capacity", n)
		}
	}
}

// TestResultsDependOnArguments: not on the calls before.
func TestResultsDependOnArguments(t *testing.T) {
	r := rand.New(rand.NewSource(9))
	l := arbitrary(r, 77)
	sorted, worst, middle := gauge.Sorted(l...), gauge.Worst(l...), gauge.Middle(l...)
	for _, n := range []int{0, 1, 2, 200} {
		other := arbitrary(r, n)
		gauge.Sorted(other...)
		gauge.Worst(other...)
		gauge.Middle(other...)
		gauge.Rate(0, 0)
		gauge.Since(-1, 0)
		if !allSame(gauge.Sorted(l...), sorted) || !same(gauge.Worst(l...), worst) || !same(gauge.Middle(l...), middle) {
			t.Errorf("P5.1, R8: the results differ after calls with %d other measures", n)
		}
	}
}
