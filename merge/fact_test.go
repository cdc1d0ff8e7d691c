package merge_test

import (
	"fmt"
	"math"
	"math/rand"
	"slices"
	"strings"
	"testing"

	"darner/disk"
	"darner/merge"
	"darner/record"
	"darner/vector"
)

// longest is a path of the greatest length.
var longest = strings.Repeat("long/", 19) + "paths"

// filePaths are of kind 3.
var filePaths = []string{
	"a", "Z", "0", "-", "_", "~", "+", "...", "a/b", "a/b/c.d", ".tmp", ".tmp-a", ".par", ".par-a", "a.tmp~b", "a.par~b",
	".tmp~a/b", ".par~a/b", ".par~archive.0/x", ".TMP~a", ".Par~a", "tmp~a", "par~a", "..tmp~a", "conflict~0~", longest,
}

// otherPaths are of no kind or of another one.
var otherPaths = []string{
	"", "/", "/a", "a/", "a//b", ".", "..", "./a", "a/.", "a/../b", "a b", " ", "a\x00", "a\n", "a\\b", "a:b", "\xff", "é", "a/é",
	longest + "x", longest + "/x", strings.Repeat("x", 101),
	".tmp~", ".tmp~a", "d/.tmp~", "d/.tmp~a", "d/e/.tmp~a", ".tmp~a/.tmp~b",
	".par~", ".par~a", "d/.par~", "d/.par~a", ".par~archive.0", ".par~archive.1", ".tmp~a/.par~b",
}

// with returns a vector with a number changed.
func with(v vector.Vector, replica, n int) vector.Vector {
	v[replica] = n
	return v
}

// filled returns a vector with the same number for each replica.
func filled(n int) vector.Vector {
	var v vector.Vector
	for replica := range v {
		v[replica] = n
	}
	return v
}

// goodVersions are those at the bounds.
var goodVersions = []vector.Vector{
	vec(1), vec(maxCount), with(vec(), 15, 1), with(vec(), 15, maxCount), with(filled(maxCount), 7, 0), filled(1), filled(maxCount),
}

// otherVersions are those that no fact may have.
var otherVersions = []vector.Vector{
	{}, vec(-1), vec(maxCount + 1), vec(math.MinInt), vec(math.MaxInt), vec(1, -1), vec(-1, 1), vec(2, 1, maxCount+1),
	with(vec(), 15, -1), with(vec(), 15, maxCount+1), with(filled(1), 15, -1), with(filled(maxCount), 15, maxCount+1), filled(-1),
	filled(math.MinInt), filled(math.MaxInt),
}

// otherSizes are those that no file has.
var otherSizes = []int{-1, -maxFile, math.MinInt, maxFile + 1, 1 << 32, math.MaxInt}

func checkGood(t *testing.T, f merge.Fact, want bool) {
	t.Helper()
	if got := f.Good(); got != want || isValid(f) != want {
		t.Errorf("P16.1: Good of %+v: %t instead of %t", f, got, want)
	}
}

func TestGoodOfPaths(t *testing.T) {
	for _, p := range filePaths {
		checkGood(t, file(p, vec(1), 1), true)
		checkGood(t, gone(p, vec(1)), true)
	}
	for _, p := range otherPaths {
		checkGood(t, file(p, vec(1), 1), false)
		checkGood(t, gone(p, vec(1)), false)
	}
}

func TestGoodOfVersions(t *testing.T) {
	for _, v := range goodVersions {
		checkGood(t, file("a", v, 1), true)
		checkGood(t, gone("a", v), true)
	}
	for _, v := range otherVersions {
		checkGood(t, file("a", v, 1), false)
		checkGood(t, gone("a", v), false)
	}
	for replica := range 16 {
		for _, n := range []int{math.MinInt, -1, 0, 1, maxCount, maxCount + 1, math.MaxInt} {
			isNumber := 0 <= n && n <= maxCount
			checkGood(t, file("a", with(vec(), replica, n), 1), isNumber && n > 0)
			checkGood(t, file("a", with(filled(1), replica, n), 1), isNumber)
		}
	}
}

// TestGoodOfContents: a file that is not deleted can have any digest, also zeros;
// a deleted one has none, and no size.
func TestGoodOfContents(t *testing.T) {
	for _, sum := range [][32]byte{{}, {1}, {31: 1}, {0: 255, 31: 255}, file("", vec(), 0).Whole} {
		for _, n := range []int{0, 1, 256, maxFile - 1, maxFile} {
			f := merge.Fact{Path: "a", Version: vec(1), Size: n, Whole: sum}
			checkGood(t, f, true)
			f.Dead = true
			checkGood(t, f, n == 0 && sum == [32]byte{})
		}
		for _, n := range otherSizes {
			f := merge.Fact{Path: "a", Version: vec(1), Size: n, Whole: sum}
			checkGood(t, f, false)
			f.Dead = true
			checkGood(t, f, false)
		}
	}
	for i := range 32 {
		f := gone("a", vec(1))
		checkGood(t, f, true)
		f.Whole[i] = 1
		checkGood(t, f, false)
	}
	checkGood(t, merge.Fact{}, false)
}

// TestGoodOfInvalidFacts: what the tests take for such.
func TestGoodOfInvalidFacts(t *testing.T) {
	for _, f := range invalid() {
		checkGood(t, f, false)
	}
}

// checkOf checks the fact of a record, whose fields are those of the record.
func checkOf(t *testing.T, r record.Record, good bool) {
	t.Helper()
	got := merge.Of(r)
	want := merge.Fact{Path: r.Path, Version: r.Version, Dead: r.Dead, Size: r.Stamp.Size, Whole: r.Whole}
	if got != want || got.Good() != good {
		t.Errorf("P16.1: Of(%+v): %+v", r, got)
	}
}

func TestOf(t *testing.T) {
	for _, p := range filePaths {
		for _, n := range []int{0, 1, 256, 257, maxFile} {
			for _, v := range goodVersions {
				r, e := record.Of(p, make([]byte, n), disk.Stamp{Time: 3, Change: 4}, v)
				if got := merge.Of(r); e != 0 || got != file(p, v, n) {
					t.Errorf("P16.1: Of the record of %d bytes at %q: %+v", n, p, got)
				}
				r, e = record.Gone(p, disk.Stamp{Size: n, Time: 3, Change: 4}, v)
				if got := merge.Of(r); e != 0 || got != gone(p, v) {
					t.Errorf("P16.1: Of the record of a deleted file at %q: %+v", p, got)
				}
			}
		}
	}
}

// TestOfInvalidRecords: their fields are taken as they are.
func TestOfInvalidRecords(t *testing.T) {
	plain, _ := record.Of("a", make([]byte, 300), disk.Stamp{Time: 3, Change: 4}, vec(1, 2))
	checkOf(t, plain, true)
	checkOf(t, record.Record{}, false)
	for _, p := range otherPaths {
		r := plain
		r.Path = p
		checkOf(t, r, false)
	}
	for _, v := range otherVersions {
		r := plain
		r.Version = v
		checkOf(t, r, false)
	}
	for _, n := range otherSizes {
		r := plain
		r.Stamp.Size = n
		checkOf(t, r, false)
	}
	dead := plain
	dead.Dead = true
	checkOf(t, dead, false)
	dead.Stamp.Size = 0
	checkOf(t, dead, false)
	dead.Whole = [32]byte{}
	checkOf(t, dead, true) // The digests of its blocks are no field of a fact.
	other := plain
	other.Stamp.Time, other.Stamp.Change, other.Blocks = -1, -1, nil
	checkOf(t, other, true)
}

func TestHome(t *testing.T) {
	zeros, ones := strings.Repeat("0", 64), strings.Repeat("f", 64)
	var most [32]byte
	for i := range most {
		most[i] = 255
	}
	for _, c := range []struct {
		f    merge.Fact
		want string
	}{
		{merge.Fact{Path: "a", Version: vec(1)}, "conflict~0~" + zeros},
		{gone("a", vec(1)), "conflict~0~" + zeros},
		{merge.Fact{Path: "a", Version: vec(1), Size: 1, Whole: most}, "conflict~1~" + ones},
		{merge.Fact{Path: longest, Version: filled(maxCount), Size: maxFile, Whole: most}, "conflict~16384~" + ones},
		{merge.Fact{Path: "a", Version: vec(1), Size: 10, Whole: [32]byte{0: 0xab, 31: 0x0c}}, "conflict~10~ab" + zeros[4:] + "0c"},
		{file("b", vec(0, 1), 0), "conflict~0~e3b0c44298fc1c149afbf4c8996fb92427ae41e4649b934ca495991b7852b855"},
		{file(home(3), vec(0, 1), 3), "conflict~3~709e80c88487a2411e1ee4dfb9f22a861492d20c4765150c0c794abd70f8147c"},
	} {
		was := c.f
		if got := c.f.Home(); got != c.want || homeOf(c.f) != c.want || c.f != was {
			t.Errorf("P16.1: Home of %+v: %s instead of %s", c.f, got, c.want)
		}
	}
	r := rand.New(rand.NewSource(1))
	for n := range 2000 {
		f := merge.Fact{Path: "a", Version: vec(1), Size: (n * 37) % (maxFile + 1)}
		r.Read(f.Whole[:])
		if got := f.Home(); got != homeOf(f) {
			t.Errorf("P16.1: Home of %+v: %s", f, got)
		}
	}
}

// checkOrder checks that the first of two facts is less than the second one.
func checkOrder(t *testing.T, less, greater merge.Fact) {
	t.Helper()
	if forth, back := merge.Order(less, greater), merge.Order(greater, less); forth != -1 || back != 1 {
		t.Errorf("P16.1: Order of %+v and %+v: %d instead of -1, and the other way round %d instead of 1", less, greater, forth, back)
	}
}

// TestOrderOfPaths: by their bytes, whatever follows.
func TestOrderOfPaths(t *testing.T) {
	paths := []string{"", "\x00", "\x00\x00", "\x00\xff", "+", "/", "0", "A", "Z", "a", "a\x00", "a+", "a-", "a.b", "a/", "a/b", "a0", "aa", "b", longest, "~", "é", "\xff"}
	for i, p := range paths {
		for _, less := range paths[:i] {
			checkOrder(t, gone(less, vec(1)), gone(p, vec(1)))
			checkOrder(t, file(less, filled(9), 9), gone(p, vec(1)))
			checkOrder(t, file(less, filled(math.MaxInt), 9), file(p, filled(math.MinInt), 0))
		}
	}
}

// TestOrderOfVersions: by the first replica whose number differs, whatever
// follows.
func TestOrderOfVersions(t *testing.T) {
	numbers := []int{math.MinInt, math.MinInt + 1, -maxCount, -2, -1, 0, 1, 2, 255, 256, maxCount, maxCount + 1, 1 << 62, math.MaxInt}
	for replica := range 16 {
		for i, n := range numbers {
			for _, less := range numbers[:i] {
				checkOrder(t, gone("a", with(vec(), replica, less)), gone("a", with(vec(), replica, n)))
				checkOrder(t, file("a", with(vec(), replica, less), 9), gone("a", with(vec(), replica, n)))
				low, high := with(filled(3), replica, less), with(filled(3), replica, n)
				for later := replica + 1; later < 16; later++ {
					low[later], high[later] = math.MaxInt, math.MinInt
				}
				checkOrder(t, file("a", low, 9), gone("a", high))
			}
		}
	}
}

// TestOrderOfContents: deleted ones first, then by size, then by digest.
func TestOrderOfContents(t *testing.T) {
	sizes := []int{math.MinInt, -2, -1, 0, 1, 2, 255, 256, maxFile, maxFile + 1, math.MaxInt}
	for i, n := range sizes {
		for k, other := range sizes {
			low, high := merge.Fact{Path: "a", Size: n, Whole: [32]byte{255, 255}}, merge.Fact{Path: "a", Size: other, Whole: [32]byte{1}}
			if i < k {
				checkOrder(t, low, high)
			}
			low.Dead = true
			checkOrder(t, low, high)
			high.Dead = true
			if i < k {
				checkOrder(t, low, high)
			}
		}
	}
	for at := range 32 {
		for n := range 256 {
			low, high := merge.Fact{Path: "a", Size: 4}, merge.Fact{Path: "a", Size: 4}
			low.Whole[at], high.Whole[at] = byte(n), byte(n+1)
			for later := at + 1; later < 32; later++ {
				low.Whole[later] = 255
			}
			if n < 255 {
				checkOrder(t, low, high)
			}
		}
	}
}

// ordered are facts that differ in any one field, and in several.
func ordered() []merge.Fact {
	var l []merge.Fact
	for _, p := range []string{"", "a", "a/b"} {
		for _, v := range []vector.Vector{{}, vec(-1), vec(0, 1), with(vec(), 15, 1), with(vec(2), 15, 1)} {
			for _, n := range []int{-1, 0, 1, maxFile + 1} {
				for _, sum := range [][32]byte{{}, {31: 1}, {1}} {
					l = append(l, merge.Fact{Path: p, Version: v, Size: n, Whole: sum}, merge.Fact{Path: p, Version: v, Dead: true, Size: n, Whole: sum})
				}
			}
		}
	}
	return l
}

// TestOrderIsAnOrder: equal facts alone are equal in it, it is the same in either
// direction, and what is sorted by it has each fact not after a later one.
func TestOrderIsAnOrder(t *testing.T) {
	l := ordered()
	for _, a := range l {
		for _, b := range l {
			got := merge.Order(a, b)
			if want := strings.Compare(key(a), key(b)); got != want || got != -merge.Order(b, a) || (got == 0) != (a == b) {
				t.Fatalf("P16.1: Order of %+v and %+v: %d instead of %d", a, b, got, want)
			}
		}
	}
	r := rand.New(rand.NewSource(2))
	r.Shuffle(len(l), func(i, k int) { l[i], l[k] = l[k], l[i] })
	slices.SortFunc(l, merge.Order)
	for i, b := range l {
		for _, a := range l[:i] {
			if merge.Order(a, b) != -1 {
				t.Fatalf("P16.1: Order of %s, %d", text([]merge.Fact{a, b}), merge.Order(a, b))
			}
		}
	}
}

func checkWinner(t *testing.T, what string, l []merge.Fact, want merge.Fact, wantOK bool) {
	t.Helper()
	was := slices.Clone(l)
	got, ok := merge.Winner(l)
	if got != want || ok != wantOK {
		t.Errorf("P16.1: Winner of %s, %s: %s, %t instead of %s, %t", what, text(l), text([]merge.Fact{got}), ok, text([]merge.Fact{want}), wantOK)
	}
	model, modelOK := winnerOf(l)
	if got != model || ok != modelOK || !slices.Equal(l, was) {
		t.Errorf("R6, P16.1: Winner of %s, %s: %s, %t", what, text(l), text([]merge.Fact{got}), ok)
	}
}

func TestWinner(t *testing.T) {
	checkWinner(t, "no facts", nil, merge.Fact{}, false)
	checkWinner(t, "no facts", []merge.Fact{}, merge.Fact{}, false)
	checkWinner(t, "no facts", make([]merge.Fact, 0, 3), merge.Fact{}, false)
	dead, later, apart := gone("a", vec(1)), gone("a", vec(2)), gone("a", vec(1, 1))
	checkWinner(t, "a deleted fact", []merge.Fact{dead}, merge.Fact{}, false)
	checkWinner(t, "deleted facts", []merge.Fact{dead, later, apart, dead}, merge.Fact{}, false)
	checkWinner(t, "deleted facts", []merge.Fact{file("a", vec(1), 3), later}, merge.Fact{}, false)
	checkWinner(t, "deleted facts", []merge.Fact{later, file("a", vec(1), 3), apart}, merge.Fact{}, false)
	one, two, three := file("a", vec(1, 0, 3), 5), file("a", vec(1, 2), 7), file("a", vec(3), 2)
	checkWinner(t, "one fact", []merge.Fact{one}, one, true)
	checkWinner(t, "equal facts", []merge.Fact{one, one, one}, one, true)
	checkWinner(t, "one fact and deleted ones", []merge.Fact{later, one, apart}, one, true)
	checkWinner(t, "one fact and deleted ones", []merge.Fact{one, later, apart}, one, true)
	checkWinner(t, "an equal version, deleted", []merge.Fact{gone("a", vec(1, 0, 3)), one, gone("a", vec(1, 0, 3))}, one, true)
	checkWinner(t, "concurrent facts", []merge.Fact{one, two, three}, three, true)
	checkWinner(t, "concurrent facts", []merge.Fact{three, two, one}, three, true)
	checkWinner(t, "concurrent facts", []merge.Fact{two, one}, two, true)
	checkWinner(t, "one that is before another one", []merge.Fact{three, file("a", vec(3, 0, 1), 0), one}, file("a", vec(3, 0, 1), 0), true)
	checkWinner(t, "the greatest, which is before a deleted one", []merge.Fact{one, two, three, gone("a", vec(3, 1))}, two, true)
	checkWinner(t, "equal versions", []merge.Fact{file("a", vec(1), 2), file("a", vec(1), 3), file("a", vec(1), 1)}, file("a", vec(1), 3), true)
	small, great := other("a", vec(1), 4), file("a", vec(1), 4)
	if key(small) > key(great) {
		small, great = great, small
	}
	checkWinner(t, "equal sizes", []merge.Fact{small, great, small}, great, true)
	checkWinner(t, "equal sizes", []merge.Fact{great, small}, great, true)
}

// TestWinnerAtItsHome: of the latest facts, those whose home is the path come
// first, of these the first one.
func TestWinnerAtItsHome(t *testing.T) {
	at := home(1)
	mine, again, early := file(at, vec(1), 1), file(at, vec(0, 1), 1), file(at, vec(0, 0, 1), 1)
	greater, greatest := file(at, vec(2), 9), file(at, vec(3, 3), 9)
	checkWinner(t, "one home", []merge.Fact{mine}, mine, true)
	checkWinner(t, "no home", []merge.Fact{greater}, greater, true)
	checkWinner(t, "no home", []merge.Fact{again, mine, greatest, other(at, vec(4), 1)}, other(at, vec(4), 1), true)
	checkWinner(t, "one home", []merge.Fact{greater, again}, again, true)
	checkWinner(t, "one home", []merge.Fact{again, greater}, again, true)
	checkWinner(t, "one home", []merge.Fact{gone(at, vec(0, 2)), early, greater}, early, true)
	checkWinner(t, "several homes", []merge.Fact{mine, again, early}, mine, true)
	checkWinner(t, "several homes", []merge.Fact{early, mine, again}, early, true)
	checkWinner(t, "several homes", []merge.Fact{again, early, mine}, again, true)
	checkWinner(t, "several homes, equal ones too", []merge.Fact{greater, again, early, mine, again}, again, true)
	checkWinner(t, "several homes, the first before another one", []merge.Fact{mine, again, early, greater}, again, true)
	checkWinner(t, "homes before another one", []merge.Fact{mine, again, greatest}, greatest, true)
	checkWinner(t, "homes before a deleted one", []merge.Fact{mine, again, gone(at, vec(1, 1))}, merge.Fact{}, false)
	empty := file(home(0), vec(0, 1), 0)
	zeros := merge.Fact{Path: homeOf(merge.Fact{}), Version: vec(0, 1)}
	checkWinner(t, "the home of no bytes", []merge.Fact{file(home(0), vec(1), 1), empty}, empty, true)
	checkWinner(t, "the home of zeros", []merge.Fact{file(zeros.Path, vec(1), 1), zeros}, zeros, true)
	checkWinner(t, "the home of deleted ones", []merge.Fact{file(zeros.Path, vec(1), 1), gone(zeros.Path, vec(0, 1))}, file(zeros.Path, vec(1), 1), true)
}

// TestWinnerOfAllShortLists: of up to four out of those of one path that matter.
func TestWinnerOfAllShortLists(t *testing.T) {
	most := 4
	if testing.Short() {
		most = 3
	}
	for _, at := range []string{"a", home(1)} {
		var all []merge.Fact
		for _, v := range []vector.Vector{vec(1), vec(0, 1), vec(1, 1), vec(2)} {
			all = append(all, gone(at, v), file(at, v, 1), file(at, v, 2))
		}
		lists := [][]merge.Fact{nil}
		for range most {
			var longer [][]merge.Fact
			for _, l := range lists {
				for _, f := range all {
					longer = append(longer, append(slices.Clone(l), f))
				}
			}
			lists = longer
			for _, l := range lists {
				want, wantOK := winnerOf(l)
				if got, ok := merge.Winner(l); got != want || ok != wantOK {
					t.Fatalf("P16.1: Winner of %s: %s, %t instead of %s, %t", text(l), text([]merge.Fact{got}), ok, text([]merge.Fact{want}), wantOK)
				}
			}
		}
	}
}

// TestWinnerOfArbitraryLists: of any length, of facts of one path.
func TestWinnerOfArbitraryLists(t *testing.T) {
	r := rand.New(rand.NewSource(3))
	for i := range 3000 {
		p := pools()[i%len(pools())]
		p.paths = p.paths[:1]
		var l []merge.Fact
		for _, f := range p.facts(r, r.Intn(12)) {
			if isValid(f) {
				l = append(l, f)
			}
		}
		want, ok := winnerOf(l)
		checkWinner(t, fmt.Sprint("list ", i), l, want, ok)
	}
}
