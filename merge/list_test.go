package merge_test

import (
	"math"
	"math/rand"
	"slices"
	"strings"
	"testing"

	"darner/merge"
	"darner/vector"
)

// at are facts of files at these paths, deleted ones for those with a "!" in
// front.
func at(paths ...string) []merge.Fact {
	var l []merge.Fact
	for i, p := range paths {
		f := file(p, vec(i), i)
		if rest, isDead := strings.CutPrefix(p, "!"); isDead {
			f = gone(rest, vec(1))
		}
		l = append(l, f)
	}
	return l
}

func checkHolds(t *testing.T, l []merge.Fact, want ...string) {
	t.Helper()
	was := slices.Clone(l)
	if got := merge.Holds(l); !slices.Equal(got, want) || !slices.Equal(got, holdsOf(l)) || !slices.Equal(l, was) {
		t.Errorf("P16.1: Holds(%s): %q instead of %q", text(l), got, want)
	}
}

func TestHolds(t *testing.T) {
	checkHolds(t, nil)
	checkHolds(t, []merge.Fact{})
	checkHolds(t, at("a"))
	checkHolds(t, at("a", "b", "a.b", "a-", "ab", "d/a", "c/d/e", "c/f"))
	checkHolds(t, at("a", "a", "a"))
	// In each direction.
	checkHolds(t, at("a", "a/b"), "a/b")
	checkHolds(t, at("a/b", "a"), "a")
	checkHolds(t, at("a", "a/b/c"), "a/b/c")
	checkHolds(t, at("a/b/c", "a"), "a")
	checkHolds(t, at("a/b", "a", "a/c"), "a")
	checkHolds(t, at("a", "x", "a/b", "a/c", "a.b"), "a/b", "a/c")
	checkHolds(t, at("x/y", "a/b", "x", "a"), "x", "a")
	checkHolds(t, at("x", "b", "b/c", "a", "a/b", "x/y"), "b/c", "a/b", "x/y")
}

// TestHoldsOfChains: what is returned holds back nothing itself.
func TestHoldsOfChains(t *testing.T) {
	checkHolds(t, at("a", "a/b", "a/b/c"), "a/b", "a/b/c")
	checkHolds(t, at("a/b", "a", "a/c", "a/c/d", "a/b/c"), "a", "a/c/d", "a/b/c")
	checkHolds(t, at("a/b/c", "a/b", "a"), "a/b", "a")
	checkHolds(t, at("a/b/c", "a/b", "a", "a/b/d", "a/e"), "a/b", "a")
	checkHolds(t, at("a/b", "a/b/c", "a", "a/d", "a/d/e"), "a/b/c", "a", "a/d/e")
	checkHolds(t, at("a/b/c/d", "a", "a/b", "a/b/c", "a/x", "a/b/x"), "a", "a/b", "a/b/c")
	checkHolds(t, at("a/b", "a", "a", "a/b", "a/c", "a/b"), "a", "a")
}

func TestHoldsOfDeletedFacts(t *testing.T) {
	checkHolds(t, at("!a", "a/b"))
	checkHolds(t, at("a", "!a/b"))
	checkHolds(t, at("!a", "!a/b", "!a/b/c"))
	checkHolds(t, at("!a", "a/b", "a/b/c"), "a/b/c")
	checkHolds(t, at("a", "!a/b", "a/b/c"), "a/b/c")
	checkHolds(t, at("a/b", "!a", "a/c"))
	checkHolds(t, at("!a", "a", "a/b", "!a/b"), "a/b")
	checkHolds(t, at("a", "!a", "a/b"), "a/b")
	dead := file("a/b", vec(1), 1) // It is deleted, although it has content.
	dead.Dead = true
	checkHolds(t, list(file("a", vec(1), 1), dead, file("a/b/c", vec(1), 1)), "a/b/c")
	checkHolds(t, list(dead, file("a", vec(1), 1)))
}

// TestHoldsOfInvalidFacts: any strings can clash.
func TestHoldsOfInvalidFacts(t *testing.T) {
	for _, f := range invalid() {
		inside, far := f, f
		inside.Path, far.Path = f.Path+"/x", f.Path+"x"
		checkHolds(t, list(f), holdsOf(list(f))...)
		if f.Dead {
			checkHolds(t, list(f, inside, far))
		} else {
			checkHolds(t, list(f, inside, far), inside.Path)
			checkHolds(t, list(inside, far, f), f.Path)
		}
	}
	checkHolds(t, at("", "/", "/a", "//"), "/a", "//")
	checkHolds(t, at("a/", "a//", "a//b", "a"), "a//b", "a")
	checkHolds(t, at(".tmp~a", ".tmp~a/b", "\xff", "\xff/\x00"), ".tmp~a/b", "\xff/\x00")
}

// TestHoldsOfArbitraryLists: of few names, some of them deleted.
func TestHoldsOfArbitraryLists(t *testing.T) {
	r := rand.New(rand.NewSource(7))
	for range 5000 {
		var paths []string
		for range r.Intn(10) {
			p := []string{"", "", "!"}[r.Intn(3)] + []string{"a", "b"}[r.Intn(2)]
			for range r.Intn(4) {
				p += []string{"/a", "/b", "/", "a"}[r.Intn(4)]
			}
			paths = append(paths, p)
		}
		checkHolds(t, at(paths...), holdsOf(at(paths...))...)
	}
}

func checkExpire(t *testing.T, l []merge.Fact, seen []vector.Vector, want ...merge.Fact) {
	t.Helper()
	was, wasSeen := slices.Clone(l), slices.Clone(seen)
	got := merge.Expire(l, seen...)
	if !slices.Equal(got, want) || !slices.Equal(got, expiredOf(l, seen...)) {
		t.Errorf("P16.1: Expire(%s, %v): %s instead of %s", text(l), seen, text(got), text(want))
	}
	if !slices.Equal(l, was) || !slices.Equal(seen, wasSeen) {
		t.Errorf("R6, P16.1: Expire(%s, %v) modifies its arguments", text(was), wasSeen)
	}
}

func vectors(l ...vector.Vector) []vector.Vector {
	return l
}

func TestExpire(t *testing.T) {
	live, dead, later := file("b", vec(1), 1), gone("a", vec(1)), gone("c", vec(1, 2))
	l := list(later, live, dead)
	checkExpire(t, nil, nil)
	checkExpire(t, nil, vectors(vec(1)))
	checkExpire(t, l, nil, l...)
	checkExpire(t, l, vectors(), l...)
	checkExpire(t, l, vectors(vec()), l...)
	// By one vector.
	checkExpire(t, l, vectors(vec(1)), later, live)
	checkExpire(t, l, vectors(vec(1, 1)), later, live)
	checkExpire(t, l, vectors(vec(0, 2)), l...)
	checkExpire(t, l, vectors(vec(1, 2)), live)
	checkExpire(t, l, vectors(filled(maxCount)), live)
	checkExpire(t, list(dead, live, dead), vectors(vec(1)), live)
	checkExpire(t, list(dead, dead), vectors(vec(1)))
	checkExpire(t, list(dead, dead), vectors(vec(0, 9)), dead, dead)
	// By several: covered by all of them, by some, by none.
	checkExpire(t, l, vectors(vec(1), vec(1)), later, live)
	checkExpire(t, l, vectors(vec(1, 2), vec(2, 2), vec(1, 3)), live)
	checkExpire(t, l, vectors(vec(1, 2), vec(1, 1)), later, live)
	checkExpire(t, l, vectors(vec(1, 1), vec(1, 2)), later, live)
	checkExpire(t, l, vectors(vec(1, 2), vec(), vec(1, 2)), l...)
	checkExpire(t, l, vectors(vec(), vec(0, 5)), l...)
	checkExpire(t, l, vectors(vec(5), vec(0, 5)), l...)
}

// TestExpireOfEachReplica: one number that is less is enough.
func TestExpireOfEachReplica(t *testing.T) {
	for replica := range 16 {
		l := list(gone("a", filled(3)))
		checkExpire(t, l, vectors(with(filled(3), replica, 2)), l...)
		checkExpire(t, l, vectors(with(filled(9), replica, 2)), l...)
		checkExpire(t, l, vectors(with(filled(3), replica, 3)))
		checkExpire(t, l, vectors(with(filled(3), replica, 4)))
		for other := range 16 {
			checkExpire(t, l, vectors(with(filled(3), replica, 4), with(filled(3), other, 2)), l...)
		}
	}
}

// TestExpireOfInvalidFacts: and of invalid vectors, by their numbers.
func TestExpireOfInvalidFacts(t *testing.T) {
	for _, f := range invalid() {
		for _, seen := range [][]vector.Vector{nil, {vec()}, {vec(1)}, {filled(maxCount)}, {filled(-1)}, {filled(math.MaxInt)}, {filled(math.MaxInt), filled(math.MinInt)}} {
			checkExpire(t, list(f), seen, expiredOf(list(f), seen...)...)
		}
	}
	dead := gone("a", vec(-5, 3))
	checkExpire(t, list(dead), vectors(vec(-5, 3)))
	checkExpire(t, list(dead), vectors(vec(-4, 3)))
	checkExpire(t, list(dead), vectors(vec(-6, 9)), dead)
	checkExpire(t, list(gone("", vec())), vectors(vec()))
	checkExpire(t, list(gone("", vec())), vectors(vec(-1)), gone("", vec()))
}

func TestExpireOfArbitraryLists(t *testing.T) {
	r := rand.New(rand.NewSource(8))
	some := small(2, 0, 7, 15)
	for i := range 5000 {
		p := pools()[i%len(pools())]
		var seen []vector.Vector
		for range r.Intn(4) {
			seen = append(seen, some[len(some)-1-r.Intn(12)])
		}
		l := p.facts(r, r.Intn(6))
		checkExpire(t, l, seen, expiredOf(l, seen...)...)
	}
}

func checkMoves(t *testing.T, old, now []merge.Fact, want ...[2]string) {
	t.Helper()
	wasOld, wasNow := slices.Clone(old), slices.Clone(now)
	if got := merge.Moves(old, now); !slices.Equal(got, want) || !slices.Equal(got, movesOf(old, now)) {
		t.Errorf("P16.1: Moves(%s, %s): %q instead of %q", text(old), text(now), got, want)
	}
	if !slices.Equal(old, wasOld) || !slices.Equal(now, wasNow) {
		t.Errorf("R6, P16.1: Moves(%s, %s) modifies its arguments", text(wasOld), text(wasNow))
	}
}

func TestMoves(t *testing.T) {
	v := vec(1)
	a, b, x, y := file("a", v, 1), file("b", v, 2), file("x", vec(2), 1), file("y", vec(0, 1), 2)
	checkMoves(t, nil, nil)
	checkMoves(t, list(a), nil)
	checkMoves(t, nil, list(x))
	checkMoves(t, list(a), list(a))
	checkMoves(t, list(a), list(x), [2]string{"a", "x"})
	checkMoves(t, list(x), list(a), [2]string{"x", "a"})
	checkMoves(t, list(a), list(y))
	checkMoves(t, list(a, b), list(x, y), [2]string{"a", "x"}, [2]string{"b", "y"})
	checkMoves(t, list(b, a), list(x, y), [2]string{"b", "y"}, [2]string{"a", "x"})
	checkMoves(t, list(a, b), list(y, x), [2]string{"a", "x"}, [2]string{"b", "y"})
	checkMoves(t, list(a, b), list(y, x, gone("a", vec(3))), [2]string{"a", "x"}, [2]string{"b", "y"})
	// What has another digest or size has another content.
	checkMoves(t, list(a), list(other("x", v, 1)))
	long := file("x", v, 1)
	long.Size = 2
	checkMoves(t, list(a), list(long))
	checkMoves(t, list(a), list(other("w", v, 1), long, x), [2]string{"a", "x"})
}

// TestMovesOfSeveralWithTheSameContent: the first that was not used yet.
func TestMovesOfSeveralWithTheSameContent(t *testing.T) {
	one := func(paths ...string) []merge.Fact {
		var l []merge.Fact
		for _, p := range paths {
			l = append(l, file(p, vec(1), 1))
		}
		return l
	}
	pair := func(from, to string) [2]string { return [2]string{from, to} }
	checkMoves(t, one("a"), one("x", "y"), pair("a", "x"))
	checkMoves(t, one("a"), one("y", "x"), pair("a", "y"))
	checkMoves(t, one("a", "b"), one("x"), pair("a", "x"))
	checkMoves(t, one("b", "a"), one("x"), pair("b", "x"))
	checkMoves(t, one("a", "b"), one("x", "y"), pair("a", "x"), pair("b", "y"))
	checkMoves(t, one("b", "a"), one("x", "y"), pair("b", "x"), pair("a", "y"))
	checkMoves(t, one("a", "b", "c"), one("z", "x", "y", "w"), pair("a", "z"), pair("b", "x"), pair("c", "y"))
	checkMoves(t, one("a", "b", "c"), one("b", "x", "c"), pair("a", "x"))
	checkMoves(t, one("a", "b", "c"), one("y", "b", "x"), pair("a", "y"), pair("c", "x"))
	mixed := list(file("a", vec(1), 2), file("b", vec(1), 1), file("c", vec(1), 2), file("d", vec(1), 1))
	checkMoves(t, mixed, list(file("w", vec(1), 1), file("x", vec(1), 2), file("y", vec(1), 3), file("z", vec(1), 1)),
		pair("a", "x"), pair("b", "w"), pair("d", "z"))
	// A path that is in a list several times.
	checkMoves(t, one("a", "a"), one("x"), pair("a", "x"))
	checkMoves(t, one("a", "a"), one("x", "y"), pair("a", "x"), pair("a", "y"))
	checkMoves(t, one("a", "b"), one("x", "x"), pair("a", "x"), pair("b", "x"))
}

// TestMovesOfPathsInBothLists: they exist, whatever content they have.
func TestMovesOfPathsInBothLists(t *testing.T) {
	a, x := file("a", vec(1), 1), file("x", vec(1), 1)
	checkMoves(t, list(a), list(file("a", vec(2), 2), x))
	checkMoves(t, list(a, file("x", vec(1), 2)), list(x))
	checkMoves(t, list(a, x), list(x, a))
	checkMoves(t, list(a, file("b", vec(1), 2)), list(file("a", vec(2), 2), file("b", vec(2), 1)))
	checkMoves(t, list(a, file("b", vec(1), 1)), list(x, file("b", vec(2), 2)), [2]string{"a", "x"})
}

func TestMovesOfDeletedFacts(t *testing.T) {
	a, x := file("a", vec(1), 1), file("x", vec(1), 1)
	move := [2]string{"a", "x"}
	checkMoves(t, list(a), list(gone("a", vec(2)), x), move)
	checkMoves(t, list(a, gone("x", vec(1))), list(x), move)
	checkMoves(t, list(gone("x", vec(1)), a), list(x, gone("a", vec(2))), move)
	checkMoves(t, list(gone("a", vec(1))), list(x))
	checkMoves(t, list(a), list(gone("x", vec(1))))
	checkMoves(t, list(gone("a", vec(1))), list(gone("x", vec(1))))
	checkMoves(t, list(file("a", vec(1), 0)), list(gone("x", vec(1))))
	zeros := merge.Fact{Path: "a", Version: vec(1)}
	checkMoves(t, list(zeros), list(gone("x", vec(1))))
	checkMoves(t, list(gone("x", vec(1))), list(zeros))
	// A path exists if one of its facts is not deleted.
	checkMoves(t, list(a), list(gone("a", vec(2)), a, x))
	checkMoves(t, list(a), list(a, gone("a", vec(2)), x))
	checkMoves(t, list(a, x, gone("x", vec(2))), list(x))
	// What is deleted is so, although it has content.
	dead, other := a, x
	dead.Dead, other.Dead = true, true
	checkMoves(t, list(dead), list(x))
	checkMoves(t, list(a), list(other))
	checkMoves(t, list(a), list(other, dead, x), move)
	checkMoves(t, list(a, dead), list(other, x), move)
}

// TestMovesOfInvalidFacts: their fields are taken as they are.
func TestMovesOfInvalidFacts(t *testing.T) {
	for _, f := range invalid() {
		moved := f
		moved.Path += "+"
		checkMoves(t, list(f), list(f))
		if f.Dead {
			checkMoves(t, list(f), list(moved))
		} else {
			checkMoves(t, list(f), list(moved), [2]string{f.Path, moved.Path})
			checkMoves(t, list(moved), list(f), [2]string{moved.Path, f.Path})
		}
	}
	checkMoves(t, list(merge.Fact{}), list(merge.Fact{Path: "x"}), [2]string{"", "x"})
}

func TestMovesOfArbitraryLists(t *testing.T) {
	r := rand.New(rand.NewSource(9))
	p := pool{[]string{"a", "b", "c", "d", "e", "f", "g", ""}, small(1, 0), []int{0, 1}}
	for range 5000 {
		old, now := p.facts(r, r.Intn(8)), p.facts(r, r.Intn(8))
		checkMoves(t, old, now, movesOf(old, now)...)
	}
}
