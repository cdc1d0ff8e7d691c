package merge_test

import (
	"fmt"
	"math/rand"
	"slices"
	"strings"
	"testing"

	"darner/merge"
	"darner/vector"
)

// checkMerge checks what Merge returns, and everything that it promises.
func checkMerge(t *testing.T, what string, a, b []merge.Fact, want ...merge.Fact) {
	t.Helper()
	if got := merge.Merge(a, b); !slices.Equal(got, want) {
		t.Errorf("P16.1: Merge, %s: %s instead of %s", what, text(got), text(want))
	}
	checkModel(t, a, b)
	checkOrders(t, a, b)
	checkAgain(t, a, b)
	checkNothingLost(t, a, b)
}

// checkOrders checks that neither the order nor the repetition of facts matters,
// nor in which list they are.
func checkOrders(t *testing.T, a, b []merge.Fact) {
	t.Helper()
	want := merge.Merge(a, b)
	all := slices.Concat(a, b)
	reversed := slices.Clone(all)
	slices.Reverse(reversed)
	sorted := slices.Clone(all)
	slices.SortFunc(sorted, merge.Order)
	shuffled := slices.Concat(all, a)
	rand.New(rand.NewSource(int64(len(all)))).Shuffle(len(shuffled), func(i, k int) {
		shuffled[i], shuffled[k] = shuffled[k], shuffled[i]
	})
	for _, l := range [][2][]merge.Fact{
		{b, a}, {all, nil}, {nil, all}, {reversed, nil}, {sorted, nil}, {shuffled, nil}, {all, all}, {a, all}, {all, b}, {reversed, all}, {b, shuffled},
	} {
		if got := merge.Merge(l[0], l[1]); !slices.Equal(got, want) {
			t.Errorf("P16.2: Merge(%s, %s): %s, but Merge(%s, %s): %s", text(l[0]), text(l[1]), text(got), text(a), text(b), text(want))
		}
	}
}

// checkAgain checks that the merge of the result with what was merged before does
// not change it.
func checkAgain(t *testing.T, a, b []merge.Fact) {
	t.Helper()
	m := merge.Merge(a, b)
	for _, l := range [][]merge.Fact{a, b, slices.Concat(a, b), m, nil} {
		for _, got := range [][]merge.Fact{merge.Merge(m, l), merge.Merge(l, m)} {
			if !slices.Equal(got, m) {
				t.Errorf("P16.2: %s, the result of Merge(%s, %s), is %s after being merged with %s", text(m), text(a), text(b), text(got), text(l))
			}
		}
	}
}

// checkNothingLost checks that the result has all that it must of each argument,
// and has facts that are valid.
func checkNothingLost(t *testing.T, a, b []merge.Fact) {
	t.Helper()
	m := merge.Merge(a, b)
	for i, f := range m {
		if !isValid(f) || i > 0 && m[i-1].Path >= f.Path {
			t.Errorf("P16.1: fact %d of Merge(%s, %s) is invalid, or not behind the one before it: %s", i, text(a), text(b), text(m))
		}
	}
	if why := lost(m, slices.Concat(a, b)); why != "" {
		t.Errorf("P16.3: Merge(%s, %s): %s: %s", text(a), text(b), text(m), why)
	}
}

// lost says which of the arguments is lost in merged facts, if one is.
func lost(m, arguments []merge.Fact) string {
	valid := only(arguments, isValid)
	for _, f := range valid {
		isCovered := slices.ContainsFunc(m, func(r merge.Fact) bool { return r.Path == f.Path && covered(f.Version, r.Version) })
		isKept := slices.ContainsFunc(m, func(r merge.Fact) bool { return !r.Dead && sameContent(r, f) })
		isOld := slices.ContainsFunc(valid, func(other merge.Fact) bool { return isBefore(f.Version, other.Version) })
		if !isCovered {
			return "the version is lost of " + text([]merge.Fact{f})
		}
		if !f.Dead && !isKept && !isOld {
			return "the content is lost of " + text([]merge.Fact{f})
		}
	}
	return ""
}

func only(l []merge.Fact, passes func(f merge.Fact) bool) []merge.Fact {
	return slices.DeleteFunc(slices.Clone(l), func(f merge.Fact) bool { return !passes(f) })
}

func list(l ...merge.Fact) []merge.Fact {
	return l
}

func TestMergeOfNothing(t *testing.T) {
	checkMerge(t, "nothing", nil, nil)
	checkMerge(t, "nothing", []merge.Fact{}, nil)
	checkMerge(t, "nothing", make([]merge.Fact, 0, 5), make([]merge.Fact, 0, 5))
	checkMerge(t, "one fact", list(file("a", vec(1), 1)), nil, file("a", vec(1), 1))
	checkMerge(t, "one deleted fact", nil, list(gone("a", vec(1))), gone("a", vec(1)))
}

func TestMergeOfDifferentPaths(t *testing.T) {
	l := list(
		file("+", vec(2), 3), gone("-", vec(1)), file("A", vec(1), 1), file("a", filled(maxCount), maxFile), gone("a-", vec(0, 1)), file("a.b", vec(1), 1),
		file("a/b", vec(1), 1), gone("a0", vec(3)), file(home(1), vec(1), 2), file(longest, with(vec(), 15, maxCount), 0), gone("~", vec(1)),
	)
	checkMerge(t, "different paths", l, nil, l...)
	checkMerge(t, "different paths", nil, l, l...)
	for i := range l {
		checkMerge(t, "different paths", l[i:], l[:i], l...)
	}
	for _, p := range filePaths {
		checkMerge(t, "one path", list(file(p, vec(1), 1)), list(file(p, vec(1), 1)), file(p, vec(1), 1))
	}
}

func TestMergeOfALaterFact(t *testing.T) {
	for _, c := range [][2]merge.Fact{
		{file("a", vec(1), 1), file("a", vec(2), 2)},
		{file("a", vec(1), 2), file("a", vec(2), 1)},
		{file("a", vec(1), 1), file("a", vec(2), 1)},
		{file("a", vec(1), 1), file("a", vec(1, 1), 2)},
		{file("a", vec(1), 2), file("a", filled(maxCount), 1)},
		{file("a", vec(maxCount-1), 9), file("a", vec(maxCount), 0)},
		{file("a", vec(1), 1), gone("a", vec(2))},
		{gone("a", vec(1)), gone("a", vec(2))},
		{gone("a", vec(1)), file("a", vec(2), 1)},
		{file(home(1), vec(1), 1), file(home(1), vec(2), 3)},
		{file(home(1), vec(1), 1), gone(home(1), vec(2))},
	} {
		checkMerge(t, "a later fact", list(c[0]), list(c[1]), c[1])
	}
	var chain []merge.Fact
	for n := range 20 {
		chain = append(chain, file("a", vec(1, n, 20), n))
	}
	checkMerge(t, "a chain", chain[:10], chain[10:], chain[19])
	checkMerge(t, "a chain with a deletion", chain, list(gone("a", vec(1, 10, 20))), chain[19])
	checkMerge(t, "a chain, deleted", chain, list(gone("a", vec(1, 20, 20))), gone("a", vec(1, 20, 20)))
}

func TestMergeOfConcurrentFacts(t *testing.T) {
	a, b, c := file("a", vec(2), 1), file("a", vec(1, 1), 2), file("a", vec(0, 0, 1), 3)
	checkMerge(t, "the same content", list(file("a", vec(2), 1)), list(file("a", vec(0, 1), 1)), file("a", vec(2, 1), 1))
	checkMerge(t, "the same version", list(file("a", vec(2), 1)), list(file("a", vec(2), 2)), file("a", vec(2), 2), file(beside("a", 1), vec(2), 1))
	checkMerge(t, "two contents", list(a), list(b), file("a", vec(2, 1), 1), file(beside("a", 2), vec(1, 1), 2))
	checkMerge(t, "two contents", list(b), list(c), file("a", vec(1, 1, 1), 2), file(beside("a", 3), vec(0, 0, 1), 3))
	checkMerge(t, "three contents", list(a, b), list(c), file("a", vec(2, 1, 1), 1), file(beside("a", 2), vec(1, 1), 2), file(beside("a", 3), vec(0, 0, 1), 3))
	checkMerge(t, "the same content twice", list(b, c), list(file("a", vec(0, 0, 0, 4), 3)),
		file("a", vec(1, 1, 1, 4), 2), file(beside("a", 3), vec(0, 0, 1, 4), 3))
	checkMerge(t, "content of the winner", list(a, b), list(file("a", vec(0, 3), 1)), file("a", vec(2, 3), 1), file(beside("a", 2), vec(1, 1), 2))
	checkMerge(t, "one that is before another one", list(a, b), list(file("a", vec(1), 9)), file("a", vec(2, 1), 1), file(beside("a", 2), vec(1, 1), 2))
	checkMerge(t, "other paths beside them", list(a, file("b", vec(1), 2)), list(b, file("A", vec(1), 1)),
		file("A", vec(1), 1), file("a", vec(2, 1), 1), file(beside("a", 2), vec(1, 1), 2), file("b", vec(1), 2))
	checkMerge(t, "several paths", list(a, file("b", vec(2), 1)), list(b, file("b", vec(0, 1), 2)),
		file("a", vec(2, 1), 1), file(beside("a", 2), vec(1, 1), 2), file("b", vec(2, 1), 1), file(beside("b", 2), vec(0, 1), 2))
	const copied = "a.conflict~3~709e80c88487a2411e1ee4dfb9f22a861492d20c4765150c0c794abd70f8147c"
	if got := merge.Merge(list(a), list(c)); len(got) != 2 || got[1] != file(copied, vec(0, 0, 1), 3) {
		t.Errorf("P16.1: Merge of two contents: %s, whose second path is not %s", text(got), copied)
	}
}

// TestMergeOfEqualSizes: contents differ in the digest alone, or in the size
// alone.
func TestMergeOfEqualSizes(t *testing.T) {
	a, b := file("a", vec(2), 4), other("a", vec(0, 1), 4)
	moved := b
	moved.Path = copyOf(b)
	a.Version = vec(2, 1)
	checkMerge(t, "another digest", list(file("a", vec(2), 4)), list(b), a, moved)
	short, long := merge.Fact{Path: "a", Version: vec(2), Size: 1}, merge.Fact{Path: "a", Version: vec(0, 1), Size: maxFile}
	moved = long
	moved.Path = copyOf(long)
	checkMerge(t, "another size", list(short), list(long), merge.Fact{Path: "a", Version: vec(2, 1), Size: 1}, moved)
	zeros := merge.Fact{Path: "a", Version: vec(0, 1)}
	moved = zeros
	moved.Path = copyOf(zeros)
	checkMerge(t, "zeros", list(short), list(zeros), merge.Fact{Path: "a", Version: vec(2, 1), Size: 1}, moved)
}

func TestMergeOfDeletedFacts(t *testing.T) {
	a, b := file("a", vec(2), 1), file("a", vec(0, 2), 2)
	checkMerge(t, "a concurrent deletion", list(a), list(gone("a", vec(0, 1))), file("a", vec(2, 1), 1))
	checkMerge(t, "a concurrent deletion", list(gone("a", vec(4))), list(b), file("a", vec(4, 2), 2))
	checkMerge(t, "the version of a deletion", list(a), list(gone("a", vec(2))), a)
	checkMerge(t, "concurrent deletions", list(gone("a", vec(2))), list(gone("a", vec(1, 3))), gone("a", vec(2, 3)))
	checkMerge(t, "a deletion of one of two", list(a, b), list(gone("a", vec(3))), file("a", vec(3, 2), 2))
	checkMerge(t, "a deletion beside two", list(a, b), list(gone("a", vec(1, 1))), file("a", vec(2, 2), 1), file(beside("a", 2), vec(0, 2), 2))
	checkMerge(t, "a deletion of both", list(a, b), list(gone("a", vec(2, 2))), gone("a", vec(2, 2)))
	checkMerge(t, "deletions of both", list(a, b), list(gone("a", vec(3)), gone("a", vec(0, 3))), gone("a", vec(3, 3)))
	checkMerge(t, "a deletion, and zeros", list(gone("a", vec(3))), list(merge.Fact{Path: "a", Version: vec(0, 1)}), merge.Fact{Path: "a", Version: vec(3, 1)})
}

// TestMergeOfCopiesThatMeet: there is a fact with the path of the copy.
func TestMergeOfCopiesThatMeet(t *testing.T) {
	mine, theirs := list(file("a", vec(5), 1)), list(file("a", vec(0, 5, 2), 2))
	won := file("a", vec(5, 5, 2), 1)
	at := beside("a", 2)
	for _, c := range []struct {
		what     string
		meets    merge.Fact
		want     merge.Fact
		moved    int // The content that has to go to its home, if one has,
		movedVec vector.Vector
	}{
		{"the same content, equal", file(at, vec(0, 5, 2), 2), file(at, vec(0, 5, 2), 2), -1, vec()},
		{"the same content, before it", file(at, vec(0, 4), 2), file(at, vec(0, 5, 2), 2), -1, vec()},
		{"the same content, after it", file(at, vec(1, 5, 2), 2), file(at, vec(1, 5, 2), 2), -1, vec()},
		{"the same content, concurrent", file(at, vec(1), 2), file(at, vec(1, 5, 2), 2), -1, vec()},
		{"another content, before it", file(at, vec(0, 4), 9), file(at, vec(0, 5, 2), 2), -1, vec()},
		{"another content, after it", file(at, vec(0, 6, 2), 9), file(at, vec(0, 6, 2), 9), -1, vec()},
		{"another content, concurrent, greater", file(at, vec(1), 9), file(at, vec(1, 5, 2), 9), 2, vec(0, 5, 2)},
		{"another content, concurrent, less", file(at, vec(0, 4, 3), 9), file(at, vec(0, 5, 3), 2), 9, vec(0, 4, 3)},
		{"another content, the same version, greater", file(at, vec(0, 5, 2), 9), file(at, vec(0, 5, 2), 9), 2, vec(0, 5, 2)},
		{"another content, the same version, less", file(at, vec(0, 5, 2), 0), file(at, vec(0, 5, 2), 2), 0, vec(0, 5, 2)},
		{"a deletion before it", gone(at, vec(0, 5)), file(at, vec(0, 5, 2), 2), -1, vec()},
		{"a deletion with its version", gone(at, vec(0, 5, 2)), file(at, vec(0, 5, 2), 2), -1, vec()},
		{"a deletion after it", gone(at, vec(0, 5, 3)), gone(at, vec(0, 5, 3)), -1, vec()},
		{"a concurrent deletion", gone(at, vec(7)), file(at, vec(7, 5, 2), 2), -1, vec()},
	} {
		want := list(won, c.want)
		if c.moved >= 0 {
			want = append(want, file(home(c.moved), c.movedVec, c.moved))
		}
		checkMerge(t, c.what, append(slices.Clone(mine), c.meets), theirs, want...)
		checkMerge(t, c.what, mine, append(list(c.meets), theirs...), want...)
	}
}

// TestMergeOfCopiesOfCopies: a copy beside a copy would have too long a path, so
// it is at its home, where nothing can take its place.
func TestMergeOfCopiesOfCopies(t *testing.T) {
	at := home(2)
	a, b := file(at, vec(9), 1), file(at, vec(0, 1), 2)
	checkMerge(t, "a home", list(a), list(b), file(home(1), vec(9), 1), file(at, vec(9, 1), 2))
	checkMerge(t, "a home, and its own there already", list(a, b), list(file(home(1), vec(0, 7), 1)), file(home(1), vec(9, 7), 1), file(at, vec(9, 1), 2))
	checkMerge(t, "homes with each other's contents", list(file(home(1), vec(1), 2)), list(file(home(2), vec(1), 1)),
		file(home(1), vec(1), 2), file(home(2), vec(1), 1))
	checkMerge(t, "homes with both contents", list(file(home(1), vec(1), 2), b), list(file(home(2), vec(1), 1), file(home(1), vec(0, 1), 1)),
		file(home(1), vec(1, 1), 1), file(home(2), vec(1, 1), 2))
	checkMerge(t, "a copy that takes its home", list(file(longest, vec(2), 1), file(home(5), vec(2), 7)), list(file(longest, vec(0, 1), 5)),
		file(home(5), vec(2, 1), 5), file(home(7), vec(2), 7), file(longest, vec(2, 1), 1))
	checkMerge(t, "a copy whose home has a later fact", list(file(longest, vec(2), 1), file(home(5), vec(2, 1), 7)), list(file(longest, vec(0, 1), 5)),
		file(home(5), vec(2, 1), 7), file(longest, vec(2, 1), 1))
	first, second := beside("a", 1), beside("a", 2)
	checkMerge(t, "a copy, of which there is a copy", list(file("a", vec(3), 3), file(first, vec(0, 9), 4)), list(file("a", vec(0, 1), 1), file(first, vec(0, 2, 1), 5)),
		file("a", vec(3, 1), 3), file(first, vec(0, 9, 1), 4), file(home(5), vec(0, 2, 1), 5))
	checkMerge(t, "copies of two contents", list(file("a", vec(3), 3), file(first, vec(0, 0, 2), 2)), list(file("a", vec(0, 1), 1), file("a", vec(0, 0, 1), 2)),
		file("a", vec(3, 1, 1), 3), file(first, vec(0, 1, 2), 1), file(second, vec(0, 0, 1), 2), file(home(2), vec(0, 0, 2), 2))
}

// TestMergeOfLongPaths: a copy is beside the path as long as there is room, and
// otherwise at its home.
func TestMergeOfLongPaths(t *testing.T) {
	for n := 1; n <= 100; n++ {
		p := strings.Repeat("x", n)
		for _, size := range []int{1, 10, 100, 1000, 10000} {
			at := home(size)
			if n <= 24-len(fmt.Sprint(size))+1 {
				at = p + "." + at
			}
			want := list(file(p, vec(1, 1), 3), file(at, vec(0, 1), size))
			slices.SortFunc(want, func(a, b merge.Fact) int { return strings.Compare(a.Path, b.Path) })
			if got := merge.Merge(list(file(p, vec(1), 3)), list(file(p, vec(0, 1), size))); !slices.Equal(got, want) {
				t.Errorf("P16.1: Merge of two contents of %d characters' path: %s instead of %s", n, text(got), text(want))
			}
		}
	}
}

// TestMergeOfAllPathsAtOnce: the copy of a's content is later than what its path
// has, but what is there has gone to its home at the same time.
func TestMergeOfAllPathsAtOnce(t *testing.T) {
	at := beside("a", 1)
	checkMerge(t, "all at once", list(file("a", vec(3), 2), file(at, vec(0, 0, 1), 5)), list(file("a", vec(1, 0, 1), 1), file(at, vec(0, 1), 6)),
		file("a", vec(3, 0, 1), 2), file(at, vec(1, 1, 1), 1), file(home(5), vec(0, 0, 1), 5), file(home(6), vec(0, 1), 6))
	late := home(1)
	checkMerge(t, "all at once", list(file(longest, vec(3), 2), file(late, vec(0, 0, 1), 5)), list(file(longest, vec(1, 0, 1), 1), file(late, vec(0, 1), 6)),
		file(late, vec(1, 1, 1), 1), file(home(5), vec(0, 0, 1), 5), file(home(6), vec(0, 1), 6), file(longest, vec(3, 0, 1), 2))
}

// TestMergeOfChainsOfHomes: each home has the next one's content, until its own
// content arrives.
func TestMergeOfChainsOfHomes(t *testing.T) {
	for _, n := range []int{1, 2, 30} {
		l := list(file(longest, vec(1), 100))
		want := list(file(longest, vec(1, 1), 100))
		for k := range n {
			l = append(l, file(home(k), vec(0, 0, 1), k+1))
			want = append(want, file(home(k), vec(0, 0, 1), k))
		}
		want[1].Version = vec(0, 1, 1)
		want = append(want, file(home(n), vec(0, 0, 1), n))
		slices.SortFunc(want, func(a, b merge.Fact) int { return strings.Compare(a.Path, b.Path) })
		checkMerge(t, fmt.Sprint("a chain of ", n), l, list(file(longest, vec(0, 1), 0)), want...)
	}
}

// TestMergeOfInvalidFacts: they are as if they were not there.
func TestMergeOfInvalidFacts(t *testing.T) {
	bad := invalid()
	checkMerge(t, "invalid facts", bad, bad)
	a, b := file("a", vec(2), 1), file("a", vec(1, 1), 2)
	want := list(file("a", vec(2, 1), 1), file(beside("a", 2), vec(1, 1), 2))
	for _, f := range bad {
		checkMerge(t, "an invalid fact", list(f), nil)
		checkMerge(t, "an invalid fact", list(a, f), list(f, b), want...)
		checkMerge(t, "an invalid fact", list(f, a, b), nil, want...)
		checkMerge(t, "an invalid fact", list(f, gone("a", vec(1))), list(f), gone("a", vec(1)))
	}
	checkMerge(t, "invalid facts", append(slices.Clone(bad), a), append(list(b), bad...), want...)
}

// TestMergeOfManyFacts: of as many concurrent contents of one path, and of as
// many paths, as frames can have, and more.
func TestMergeOfManyFacts(t *testing.T) {
	var a, b []merge.Fact
	for n := range 150 {
		a = append(a, file("a", vec(n, 150-n), n), file(fmt.Sprintf("b%03d", n), vec(1), n))
		b = append(b, file("a", vec(n, 0, 1), n+150), file(fmt.Sprintf("b%03d", n), vec(0, 1), n+1))
	}
	checkModel(t, a, b)
	checkAgain(t, a, b)
	checkNothingLost(t, a, b)
}

// TestMergeOfAllShortLists: of up to three facts out of those of a path, its
// copies' paths and their homes.
func TestMergeOfAllShortLists(t *testing.T) {
	for _, paths := range [][]string{{"a"}, {home(1)}, {"a", beside("a", 1)}, {longest, home(1)}, {home(1), home(2)}, {"a", home(2)}} {
		var all []merge.Fact
		for _, p := range paths {
			for _, v := range []vector.Vector{vec(1), vec(0, 1), vec(1, 1)} {
				all = append(all, gone(p, v), file(p, v, 1), file(p, v, 2))
			}
		}
		if testing.Short() && len(all) > 9 {
			continue
		}
		for i, first := range all {
			for k, second := range all[i:] {
				checkModel(t, list(first), list(second))
				checkAgain(t, list(first), list(second))
				for _, third := range all[i+k:] {
					l := list(first, second, third)
					want := mergedOf(l...)
					if got := merge.Merge(l[:1], l[1:]); !slices.Equal(got, want) {
						t.Fatalf("P16.1: Merge of %s: %s instead of %s", text(l), text(got), text(want))
					}
					if got := merge.Merge(l, want); !slices.Equal(got, want) || lost(got, l) != "" {
						t.Fatalf("P16.2, P16.3: Merge of %s: %s, and merged again %s, %s", text(l), text(want), text(got), lost(got, l))
					}
				}
			}
		}
	}
}

// TestMergeOfArbitraryLists: of facts that meet often.
func TestMergeOfArbitraryLists(t *testing.T) {
	r := rand.New(rand.NewSource(4))
	rounds := 4000
	if testing.Short() {
		rounds = 700
	}
	all := pools()
	for i := range rounds {
		p := all[i%len(all)]
		a, b := p.facts(r, r.Intn(7)), p.facts(r, r.Intn(7))
		checkModel(t, a, b)
		checkOrders(t, a, b)
		checkAgain(t, a, b)
		checkNothingLost(t, a, b)
		if t.Failed() {
			return
		}
	}
}

// meet lets any two replicas merge what they know, until all know the same.
func meet(t *testing.T, r *rand.Rand, replicas [][]merge.Fact) {
	t.Helper()
	for range 12 {
		for _, k := range r.Perm(len(replicas)) {
			other := (k + 1) % len(replicas)
			m := merge.Merge(replicas[k], replicas[other])
			replicas[k], replicas[other] = m, slices.Clone(m)
		}
	}
	for _, l := range replicas {
		if !slices.Equal(l, replicas[0]) {
			t.Fatalf("P3, P16.2: replicas that have merged do not agree: %s and %s", text(l), text(replicas[0]))
		}
	}
}

// TestReplicasThatMergeAgree: in whatever order they meet, and whatever each has
// known.
func TestReplicasThatMergeAgree(t *testing.T) {
	r := rand.New(rand.NewSource(5))
	all := pools()
	for i := range 600 {
		p := all[i%len(all)]
		var replicas [][]merge.Fact
		for range 2 + r.Intn(4) {
			replicas = append(replicas, merge.Merge(p.facts(r, r.Intn(5)), nil))
		}
		meet(t, r, replicas)
	}
}

// TestWritersLoseNothing: replicas write and delete files, each with a version
// that no other one can have, and meet now and then. In the end all have each
// content that was not replaced by someone who had it.
func TestWritersLoseNothing(t *testing.T) {
	r := rand.New(rand.NewSource(6))
	for range 300 {
		replicas := make([][]merge.Fact, 2+r.Intn(4))
		var written []merge.Fact
		for n := range 5 + r.Intn(20) {
			k := r.Intn(len(replicas))
			if r.Intn(3) == 0 {
				other := r.Intn(len(replicas))
				replicas[k] = merge.Merge(replicas[k], replicas[other])
				continue
			}
			p := []string{"a", "b/c", longest}[r.Intn(3)]
			f := file(p, vec(), n)
			if r.Intn(4) == 0 {
				f = gone(p, vec())
			}
			at := slices.IndexFunc(replicas[k], func(f merge.Fact) bool { return f.Path == p })
			if at >= 0 {
				f.Version = replicas[k][at].Version
			}
			f.Version[k]++
			written = append(written, f)
			replicas[k] = merge.Merge(replicas[k], list(f))
		}
		meet(t, r, replicas)
		if why := lost(replicas[0], written); why != "" {
			t.Fatalf("P3, P16.3: replicas that have written %s know %s: %s", text(written), text(replicas[0]), why)
		}
	}
}
