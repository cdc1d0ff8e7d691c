package vector_test

import (
	"math"
	"math/rand"
	"slices"
	"testing"

	"darner/api"
	"darner/vector"
)

const (
	replicas = 16
	most     = 1 << 40 // The greatest number.
)

// edges are numbers that a vector may have: the least and the greatest ones, and
// those around which one more byte is needed.
var edges = []int{0, 1, 2, 126, 127, 128, 129, 300, 16383, 16384, 1 << 31, 1<<35 - 1, 1 << 35, most - 1, most}

// with returns the vector that has numbers for some replicas: the replica and
// its number, one after the other.
func with(pairs ...int) vector.Vector {
	var v vector.Vector
	for i := 0; i < len(pairs); i += 2 {
		v[pairs[i]] = pairs[i+1]
	}
	return v
}

// filled returns the vector that has one number for all replicas.
func filled(n int) vector.Vector {
	var v vector.Vector
	for replica := range replicas {
		v[replica] = n
	}
	return v
}

// small returns all vectors whose numbers are 0 to greatest, those of other than
// the given replicas 0.
func small(greatest int, of ...int) []vector.Vector {
	l := []vector.Vector{{}}
	for _, replica := range of {
		for _, v := range slices.Clone(l) {
			for n := 1; n <= greatest; n++ {
				v[replica] = n
				l = append(l, v)
			}
		}
	}
	return l
}

// arbitrary returns a good vector of which many numbers are 0.
func arbitrary(r *rand.Rand) vector.Vector {
	var v vector.Vector
	for range r.Intn(20) {
		replica := r.Intn(replicas)
		switch r.Intn(3) {
		case 0:
			v[replica] = edges[r.Intn(len(edges))]
		case 1:
			v[replica] = r.Intn(3)
		case 2:
			v[replica] = r.Intn(most+1) >> r.Intn(40)
		}
	}
	return v
}

// family returns n vectors, many of which are before others, or equal.
func family(r *rand.Rand, n int) []vector.Vector {
	l := make([]vector.Vector, n)
	for i := range l {
		l[i] = arbitrary(r)
		if i > 0 && r.Intn(3) > 0 {
			l[i] = l[r.Intn(i)]
		}
		for range r.Intn(3) {
			l[i][r.Intn(replicas)] = r.Intn(3)
		}
	}
	return l
}

// relation is what Compare returns, by the replicas in which numbers are less.
func relation(a, b vector.Vector) int {
	var less, greater []int
	for replica := range replicas {
		if a[replica] < b[replica] {
			less = append(less, replica)
		}
		if a[replica] > b[replica] {
			greater = append(greater, replica)
		}
	}
	switch {
	case less == nil && greater == nil:
		return 0
	case greater == nil:
		return -1
	case less == nil:
		return 1
	}
	return 2
}

func checkCompare(t *testing.T, a, b vector.Vector, want int) {
	t.Helper()
	if got := vector.Compare(a, b); got != want {
		t.Errorf("P9.1: Compare(%v, %v): %d instead of %d", a, b, got, want)
	}
}

func checkMerge(t *testing.T, want vector.Vector, l ...vector.Vector) {
	t.Helper()
	if got := vector.Merge(l...); got != want {
		t.Errorf("P9.1: Merge(%v): %v instead of %v", l, got, want)
	}
}

func TestGood(t *testing.T) {
	numbers := []int{math.MinInt, math.MinInt + 1, -most, -2, -1, most + 1, most + 2, 2 * most, math.MaxInt - 1, math.MaxInt}
	for _, n := range append(numbers, edges...) {
		want := n >= 0 && n <= most
		for replica := range replicas {
			for _, v := range []vector.Vector{{}, filled(1), filled(most)} {
				v[replica] = n
				if got := v.Good(); got != want {
					t.Errorf("P9.1: Good of %v: %t", v, got)
				}
			}
		}
		if got := filled(n).Good(); got != want {
			t.Errorf("P9.1: Good of %v: %t", filled(n), got)
		}
	}
	if (vector.Vector{-1, 1}).Good() || (vector.Vector{0: most + 1, 15: -1}).Good() {
		t.Error("P9.1: Good of vectors with several wrong numbers: true")
	}
}

func checkBump(t *testing.T, v vector.Vector, replica int, want vector.Vector, wantError api.Errno) {
	t.Helper()
	was := v
	if got, e := v.Bump(replica); got != want || e != wantError {
		t.Errorf("P9.1: Bump(%d) of %v: %v, error %d instead of %v, error %d", replica, was, got, e, want, wantError)
	}
	if v != was {
		t.Errorf("P9.1: Bump(%d) of %v: it becomes %v", replica, was, v)
	}
}

func TestBumpOfEachReplica(t *testing.T) {
	for replica := range replicas {
		for _, n := range edges {
			for _, v := range []vector.Vector{{}, filled(1), filled(most)} {
				v[replica] = n
				if n == most {
					checkBump(t, v, replica, vector.Vector{}, api.ErrRange)
					continue
				}
				want := v
				want[replica] = n + 1
				checkBump(t, v, replica, want, api.OK)
			}
		}
	}
}

func TestBumpOfNumbersThatAreTooGreat(t *testing.T) {
	for replica := range replicas {
		for _, n := range []int{most, most + 1, most + 2, 1 << 41, math.MaxInt - 1, math.MaxInt} {
			checkBump(t, with(replica, n), replica, vector.Vector{}, api.ErrRange)
			v := filled(5)
			v[replica] = n
			checkBump(t, v, replica, vector.Vector{}, api.ErrRange)
		}
	}
}

func TestBumpOfNoReplica(t *testing.T) {
	for _, replica := range []int{-1, 16, -2, -16, 17, 31, 32, 256, 1 << 32, math.MinInt, math.MaxInt} {
		for _, v := range []vector.Vector{{}, filled(1), filled(most), with(15, 3)} {
			checkBump(t, v, replica, vector.Vector{}, api.ErrRange)
		}
	}
}

// TestBumpAgain: a version is after all those that it comes from.
func TestBumpAgain(t *testing.T) {
	var v vector.Vector
	for i, replica := range []int{0, 15, 7, 0, 0, 15, 3} {
		next, e := v.Bump(replica)
		if e != api.OK || vector.Compare(v, next) != -1 || vector.Compare(vector.Vector{}, next) != -1 {
			t.Errorf("P9.1: Bump number %d: %v, error %d after %v", i, next, e, v)
		}
		v = next
	}
	if want := with(0, 3, 3, 1, 7, 1, 15, 2); v != want {
		t.Errorf("P9.1: Bump of several replicas: %v instead of %v", v, want)
	}
}

func TestMergeOfNone(t *testing.T) {
	checkMerge(t, vector.Vector{})
	checkMerge(t, vector.Vector{}, []vector.Vector{}...)
	checkMerge(t, vector.Vector{}, vector.Vector{})
	checkMerge(t, vector.Vector{}, make([]vector.Vector, 5)...)
}

func TestMergeOfOne(t *testing.T) {
	for _, v := range append(small(2, 0, 9, 15), filled(1), filled(most), with(0, most), with(15, most)) {
		checkMerge(t, v, v)
		checkMerge(t, v, v, v)
		checkMerge(t, v, v, vector.Vector{})
		checkMerge(t, v, vector.Vector{}, v, v, vector.Vector{})
	}
}

func TestMergeOfKnownVectors(t *testing.T) {
	a, b, c := with(0, 3, 7, 1), with(7, 2, 15, 1), with(0, 1, 1, most, 15, 1)
	all := with(0, 3, 1, most, 7, 2, 15, 1)
	checkMerge(t, with(0, 3, 7, 2, 15, 1), a, b)
	checkMerge(t, with(0, 3, 7, 2, 15, 1), b, a)
	for _, l := range [][]vector.Vector{
		{a, b, c}, {a, c, b}, {b, a, c}, {b, c, a}, {c, a, b}, {c, b, a},
		{a, a, b, c}, {c, b, a, b, c}, {all, a}, {a, all}, {all, all}, {a, b, c, all, vector.Vector{}},
	} {
		checkMerge(t, all, l...)
	}
}

func TestMergeOfAllSmallVectors(t *testing.T) {
	l := small(2, 0, 8, 15)
	checkMerge(t, with(0, 2, 8, 2, 15, 2), l...)
	for _, a := range l {
		for _, b := range l {
			for _, c := range l {
				want := with(0, max(a[0], b[0], c[0]), 8, max(a[8], b[8], c[8]), 15, max(a[15], b[15], c[15]))
				checkMerge(t, want, a, b, c)
			}
		}
	}
}

// TestMergeOfArbitraryVectors: in any order, with repetitions, at once or in
// parts.
func TestMergeOfArbitraryVectors(t *testing.T) {
	r := rand.New(rand.NewSource(1))
	for range 2000 {
		l := family(r, 1+r.Intn(6))
		var want vector.Vector
		for replica := range replicas {
			for _, v := range l {
				want[replica] = max(want[replica], v[replica])
			}
		}
		checkMerge(t, want, l...)
		cut := r.Intn(len(l) + 1)
		checkMerge(t, want, vector.Merge(l[:cut]...), vector.Merge(l[cut:]...))
		l = append(l, l[r.Intn(len(l))])
		r.Shuffle(len(l), func(i, k int) { l[i], l[k] = l[k], l[i] })
		checkMerge(t, want, l...)
		for _, v := range l {
			if c := vector.Compare(v, want); c != 0 && c != -1 {
				t.Errorf("P9.1: %v is not covered by the merged vector %v", v, want)
			}
		}
	}
}

// TestMergeLeavesItsArguments: as they are, also behind the end of the list.
func TestMergeLeavesItsArguments(t *testing.T) {
	r := rand.New(rand.NewSource(2))
	for range 200 {
		whole := family(r, 9)
		was := slices.Clone(whole)
		for n := range whole {
			vector.Merge(whole[:n]...)
		}
		if !slices.Equal(whole, was) {
			t.Errorf("P9.1, R6: Merge changes its arguments %v to %v", was, whole)
		}
	}
}

func TestCompareOfKnownVectors(t *testing.T) {
	for _, c := range []struct {
		a, b vector.Vector
		want int
	}{
		{vector.Vector{}, vector.Vector{}, 0},
		{filled(most), filled(most), 0},
		{with(3, 1, 15, 2), with(3, 1, 15, 2), 0},
		{vector.Vector{}, with(0, 1), -1},
		{vector.Vector{}, with(15, 1), -1},
		{vector.Vector{}, filled(most), -1},
		{with(3, 1), with(3, 1, 15, 1), -1},
		{with(3, 1), with(3, 2), -1},
		{with(0, most-1, 4, 7), with(0, most, 4, 7), -1},
		{with(0, 1), with(15, 1), 2},
		{with(0, 1), with(1, most), 2},
		{with(14, 2, 15, 1), with(14, 1, 15, 2), 2},
		{with(0, 2, 1, 1, 15, 5), with(0, 1, 1, 2, 15, 5), 2},
	} {
		checkCompare(t, c.a, c.b, c.want)
		back := c.want
		if c.want == -1 {
			back = 1
		}
		checkCompare(t, c.b, c.a, back)
	}
}

// TestCompareWhereOneReplicaDiffers: alone, and together with another one.
func TestCompareWhereOneReplicaDiffers(t *testing.T) {
	for _, v := range []vector.Vector{{}, filled(3), filled(most - 2), with(0, 5, 8, 1, 15, 9)} {
		for replica := range replicas {
			after := v
			after[replica]++
			checkCompare(t, v, v, 0)
			checkCompare(t, v, after, -1)
			checkCompare(t, after, v, 1)
			for other := range replicas {
				apart := v
				apart[other]++
				if other != replica {
					checkCompare(t, after, apart, 2)
				}
				both := after
				both[other]++
				checkCompare(t, apart, both, -1)
				checkCompare(t, both, apart, 1)
			}
		}
	}
}

func TestCompareOfAllSmallVectors(t *testing.T) {
	l := append(small(2, 0, 6, 15), small(1, 0, 1, 14, 15)...)
	for _, a := range l {
		for _, b := range l {
			checkCompare(t, a, b, relation(a, b))
		}
	}
}

func TestCompareOfArbitraryVectors(t *testing.T) {
	r := rand.New(rand.NewSource(3))
	for range 500 {
		l := family(r, 8)
		for _, a := range l {
			for _, b := range l {
				checkCompare(t, a, b, relation(a, b))
			}
		}
	}
}

// TestConcurrentVectorsAndTheirMerge: the chapter's example.
func TestConcurrentVectorsAndTheirMerge(t *testing.T) {
	r := rand.New(rand.NewSource(4))
	found := 0
	for range 3000 {
		a, b := arbitrary(r), arbitrary(r)
		if relation(a, b) != 2 {
			continue
		}
		found++
		merged := vector.Merge(a, b)
		checkCompare(t, a, merged, -1)
		checkCompare(t, b, merged, -1)
		checkCompare(t, merged, a, 1)
	}
	if found < 100 {
		t.Errorf("only %d pairs of vectors are concurrent", found)
	}
}
