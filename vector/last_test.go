package vector_test

import (
	"math/rand"
	"slices"
	"testing"

	"darner/vector"
)

// lastOf is what Last returns, by its definition.
func lastOf(l []vector.Vector) []int {
	var last []int
	for i, v := range l {
		isBeforeOne := slices.ContainsFunc(l, func(other vector.Vector) bool { return relation(v, other) == -1 })
		if !isBeforeOne && !slices.Contains(l[:i], v) {
			last = append(last, i)
		}
	}
	return last
}

func checkLast(t *testing.T, want []int, l ...vector.Vector) {
	t.Helper()
	if got := vector.Last(l); !slices.Equal(got, want) {
		t.Errorf("P9.1: Last(%v): %v instead of %v", l, got, want)
	}
}

func TestLastOfNone(t *testing.T) {
	if len(vector.Last(nil)) != 0 || len(vector.Last([]vector.Vector{})) != 0 || len(vector.Last(make([]vector.Vector, 0, 9))) != 0 {
		t.Error("P9.1: Last of no vectors is not empty")
	}
}

func TestLastOfEqualVectors(t *testing.T) {
	for _, v := range []vector.Vector{{}, with(0, 1), with(15, 1), filled(most)} {
		for n := 1; n < 6; n++ {
			checkLast(t, []int{0}, slices.Repeat([]vector.Vector{v}, n)...)
		}
	}
}

// TestLastOfChains: in rising and in falling order, with and without
// repetitions.
func TestLastOfChains(t *testing.T) {
	for replica := range replicas {
		var rising, falling, twice []vector.Vector
		v := with(3, 9, 12, most-9)
		for n := range 6 {
			rising = append(rising, v)
			twice = append(twice, v, v)
			falling = slices.Insert(falling, 0, v)
			checkLast(t, []int{n}, rising...)
			checkLast(t, []int{2 * n}, twice...)
			checkLast(t, []int{0}, falling...)
			v[replica]++
		}
	}
	checkLast(t, []int{2}, vector.Vector{}, with(0, 1), with(0, 1, 15, 1), with(15, 1))
	checkLast(t, []int{0}, filled(2), filled(1), vector.Vector{}, filled(1), filled(2))
	checkLast(t, []int{1}, filled(most-1), filled(most), filled(most-1), filled(most))
}

func TestLastOfConcurrentVectors(t *testing.T) {
	var l []vector.Vector
	var want []int
	for replica := range replicas {
		l = append(l, with(replica, 1+replica%3))
		want = append(want, replica)
		checkLast(t, want, l...)
		// All of them once more, the zero vector in front and at the end.
		checkLast(t, want, append(slices.Clone(l), l...)...)
		checkLast(t, want, append(slices.Clone(l), vector.Vector{})...)
	}
	slices.Reverse(l)
	checkLast(t, want, l...)
	checkLast(t, []int{len(l)}, append(slices.Clone(l), filled(3))...)
	checkLast(t, []int{0}, append([]vector.Vector{filled(3)}, l...)...)
}

func TestLastOfMixtures(t *testing.T) {
	var none vector.Vector
	a, b, c := with(0, 1), with(15, 1), with(7, 1)
	ab, bc, abc := vector.Merge(a, b), vector.Merge(b, c), vector.Merge(a, b, c)
	checkLast(t, []int{1}, none, a)
	checkLast(t, []int{0}, a, none)
	checkLast(t, []int{0, 1}, a, b, a, none, b)
	checkLast(t, []int{0, 2}, a, none, b)
	checkLast(t, []int{2, 3}, a, b, c, ab)
	checkLast(t, []int{0, 3}, ab, a, b, c)
	checkLast(t, []int{3, 4}, a, b, c, ab, bc)
	checkLast(t, []int{1, 2}, b, bc, ab, a, c, bc, ab)
	checkLast(t, []int{3}, a, ab, bc, abc, abc, c)
	checkLast(t, []int{0}, abc, a, ab, bc, abc, c)
}

// TestLastOfAllShortLists: of up to four of nine vectors.
func TestLastOfAllShortLists(t *testing.T) {
	all := small(2, 0, 15)
	lists := [][]vector.Vector{nil}
	for range 4 {
		var longer [][]vector.Vector
		for _, l := range lists {
			for _, v := range all {
				longer = append(longer, append(slices.Clone(l), v))
			}
		}
		lists = longer
		for _, l := range lists {
			checkLast(t, lastOf(l), l...)
		}
	}
}

func TestLastOfArbitraryLists(t *testing.T) {
	r := rand.New(rand.NewSource(5))
	for range 3000 {
		l := family(r, r.Intn(12))
		checkLast(t, lastOf(l), l...)
	}
	l := small(3, 0, 5, 10, 15)
	r.Shuffle(len(l), func(i, k int) { l[i], l[k] = l[k], l[i] })
	checkLast(t, lastOf(l), l...)
}

// TestLastLeavesItsArgument: as it is, also behind the end of the list.
func TestLastLeavesItsArgument(t *testing.T) {
	r := rand.New(rand.NewSource(6))
	for range 300 {
		whole := family(r, 12)
		was := slices.Clone(whole)
		for n := range whole {
			checkLast(t, lastOf(was[:n]), whole[:n]...)
		}
		if !slices.Equal(whole, was) {
			t.Errorf("P9.1, R6: Last changes its argument %v to %v", was, whole)
		}
	}
}

// TestLastIsNewMemory: also its spare capacity.
func TestLastIsNewMemory(t *testing.T) {
	var l []vector.Vector
	var want []int
	for replica := range replicas {
		l, want = append(l, with(replica, 1)), append(want, replica)
		first, second := vector.Last(l), vector.Last(l)
		for i := range first[:cap(first)] {
			first[:cap(first)][i] = -7
		}
		if !slices.Equal(second, want) || !slices.Equal(vector.Last(l), want) {
			t.Errorf("P9.1, R6: the result of Last is not new memory: %v instead of %v", second, want)
		}
	}
}
