package merge_test

import (
	"bytes"
	"crypto/sha256"
	"encoding/binary"
	"fmt"
	"math/rand"
	"regexp"
	"slices"
	"strings"
	"testing"

	"darner/merge"
	"darner/vector"
)

const (
	maxFile  = 16384
	maxCount = 1 << 40
)

var nameForm = regexp.MustCompile(`^[a-zA-Z0-9_.~+-]+$`)

// isFile is what the chapters call a path of kind 3.
func isFile(p string) bool {
	names := strings.Split(p, "/")
	for _, name := range names {
		if !nameForm.MatchString(name) || name == "." || name == ".." {
			return false
		}
	}
	last := names[len(names)-1]
	return len(p) <= 100 && !strings.HasPrefix(last, ".tmp~") && !strings.HasPrefix(last, ".par~")
}

// isValid is what the chapter calls a valid fact.
func isValid(f merge.Fact) bool {
	sum := 0
	for _, n := range f.Version {
		if n < 0 || n > maxCount {
			return false
		}
		sum += n
	}
	if f.Dead && (f.Size != 0 || f.Whole != [32]byte{}) {
		return false
	}
	return isFile(f.Path) && sum > 0 && 0 <= f.Size && f.Size <= maxFile
}

func homeOf(f merge.Fact) string {
	return fmt.Sprintf("conflict~%d~%x", f.Size, f.Whole)
}

// copyOf is the path of the conflict copy of a fact.
func copyOf(f merge.Fact) string {
	beside := f.Path + "." + homeOf(f)
	if len(beside) > 100 {
		return homeOf(f)
	}
	return beside
}

// covered reports whether none of a's numbers is greater than that of b.
func covered(a, b vector.Vector) bool {
	for replica := range 16 {
		if a[replica] > b[replica] {
			return false
		}
	}
	return true
}

func isBefore(a, b vector.Vector) bool {
	return covered(a, b) && a != b
}

func sameContent(a, b merge.Fact) bool {
	return a.Size == b.Size && bytes.Equal(a.Whole[:], b.Whole[:])
}

// key is greater, byte by byte, for a fact that is greater in the order.
func key(f merge.Fact) string {
	// A path is followed by a byte that is less than all others can be, in two
	// bytes for each of its own.
	var b []byte
	for _, c := range []byte(f.Path) {
		b = append(b, 1, c)
	}
	b = append(b, 0)
	for _, n := range f.Version {
		b = binary.BigEndian.AppendUint64(b, uint64(n)^1<<63)
	}
	if f.Dead {
		b = append(b, 0)
	} else {
		b = append(b, 1)
	}
	b = binary.BigEndian.AppendUint64(b, uint64(f.Size)^1<<63)
	return string(append(b, f.Whole[:]...))
}

// latestOf are the facts of a list that are before no other one of their path.
func latestOf(l []merge.Fact) []merge.Fact {
	var latest []merge.Fact
	for _, f := range l {
		isLatest := true
		for _, other := range l {
			if other.Path == f.Path && isBefore(f.Version, other.Version) {
				isLatest = false
			}
		}
		if isLatest {
			latest = append(latest, f)
		}
	}
	return latest
}

// winnerOf is what Winner returns for facts of one path.
func winnerOf(l []merge.Fact) (winner merge.Fact, ok bool) {
	for _, f := range latestOf(l) {
		switch {
		case f.Dead:
		case homeOf(f) == f.Path:
			return f, true
		case !ok || key(f) > key(winner):
			winner, ok = f, true
		}
	}
	return winner, ok
}

// mergedOf is what Merge returns for these facts: it does what the chapter says
// with one flat set.
func mergedOf(l ...merge.Fact) []merge.Fact {
	s := map[merge.Fact]int{}
	for _, f := range l {
		if isValid(f) {
			s[f] = 1
		}
	}
	for before := -1; before < len(s); {
		before = len(s)
		for _, facts := range byPath(s) {
			winner, _ := winnerOf(facts)
			for _, f := range latestOf(facts) {
				if !f.Dead && !sameContent(f, winner) {
					f.Path = copyOf(f)
					s[f] = 1
				}
			}
		}
	}
	var merged []merge.Fact
	for path, facts := range byPath(s) {
		winner, ok := winnerOf(facts)
		f := merge.Fact{Path: path, Dead: !ok, Size: winner.Size, Whole: winner.Whole}
		for _, other := range facts {
			for replica, n := range other.Version {
				f.Version[replica] = max(f.Version[replica], n)
			}
		}
		merged = append(merged, f)
	}
	slices.SortFunc(merged, func(a, b merge.Fact) int { return strings.Compare(a.Path, b.Path) })
	return merged
}

// byPath returns the facts of a set, by their paths.
func byPath(s map[merge.Fact]int) map[string][]merge.Fact {
	m := map[string][]merge.Fact{}
	for f := range s {
		m[f.Path] = append(m[f.Path], f)
	}
	return m
}

// holdsOf is what Holds returns.
func holdsOf(l []merge.Fact) []string {
	lies := func(p, in string) bool { return strings.HasPrefix(p, in+"/") && len(p) > len(in)+1 }
	returned := make([]bool, len(l))
	var paths []string
	for i, f := range l {
		for k, other := range l[:i] {
			if !f.Dead && !other.Dead && !returned[k] && (lies(f.Path, other.Path) || lies(other.Path, f.Path)) {
				returned[i] = true
			}
		}
		if returned[i] {
			paths = append(paths, f.Path)
		}
	}
	return paths
}

// expiredOf is what Expire returns.
func expiredOf(l []merge.Fact, seen ...vector.Vector) []merge.Fact {
	var facts []merge.Fact
	for _, f := range l {
		coverage := 0
		for _, v := range seen {
			if covered(f.Version, v) {
				coverage++
			}
		}
		if !f.Dead || len(seen) == 0 || coverage < len(seen) {
			facts = append(facts, f)
		}
	}
	return facts
}

// movesOf is what Moves returns.
func movesOf(old, now []merge.Fact) [][2]string {
	exists := func(p string, l []merge.Fact) bool {
		return slices.ContainsFunc(l, func(f merge.Fact) bool { return f.Path == p && !f.Dead })
	}
	used := map[int]int{}
	var moves [][2]string
	for _, f := range old {
		for i, other := range now {
			if !f.Dead && !exists(f.Path, now) && !other.Dead && !exists(other.Path, old) && sameContent(f, other) && used[i] == 0 {
				used[i] = 1
				moves = append(moves, [2]string{f.Path, other.Path})
				break
			}
		}
	}
	return moves
}

// text is facts, in few characters.
func text(l []merge.Fact) string {
	out := ""
	for _, f := range l {
		out += fmt.Sprintf("[%q %s", f.Path, f.Version.Text())
		if f.Dead {
			out += " dead"
		}
		out += fmt.Sprintf(" %d %x]", f.Size, f.Whole[:3])
	}
	return out
}

// vec is the vector of these numbers, of the first replicas.
func vec(numbers ...int) vector.Vector {
	var v vector.Vector
	copy(v[:], numbers)
	return v
}

// file is the fact of a file with content n: of n bytes, as those of no other
// number.
func file(p string, v vector.Vector, n int) merge.Fact {
	return merge.Fact{Path: p, Version: v, Size: n, Whole: sha256.Sum256(make([]byte, n))}
}

// other is that of a file with as many bytes, but other ones.
func other(p string, v vector.Vector, n int) merge.Fact {
	return merge.Fact{Path: p, Version: v, Size: n, Whole: sha256.Sum256(bytes.Repeat([]byte{1}, n))}
}

// gone is that of a deleted file.
func gone(p string, v vector.Vector) merge.Fact {
	return merge.Fact{Path: p, Version: v, Dead: true}
}

// home is that of the content n.
func home(n int) string {
	return homeOf(file("", vec(), n))
}

// beside is the path of the conflict copy of a path with the content n.
func beside(p string, n int) string {
	return copyOf(file(p, vec(), n))
}

// invalid are facts with one field each that none may have.
func invalid() []merge.Fact {
	var l []merge.Fact
	for _, p := range otherPaths {
		l = append(l, file(p, vec(1), 1), gone(p, vec(1)))
	}
	for _, v := range otherVersions {
		l = append(l, file("a", v, 1), gone("a", v))
	}
	for _, n := range otherSizes {
		f := file("a", vec(1), 1)
		f.Size = n
		l = append(l, f)
	}
	for _, f := range []merge.Fact{file("a", vec(1), 1), file("a", vec(1), 0), file(home(2), vec(1), 2)} {
		f.Dead = true
		l = append(l, f)
		f.Whole = [32]byte{}
		if f.Size > 0 {
			l = append(l, f)
		}
	}
	return l
}

// A pool is what arbitrary facts are made of.
type pool struct {
	paths    []string
	versions []vector.Vector
	contents []int
}

// fact returns one of the pool's: of a deleted file, or with one of its contents,
// of which several have the same size.
func (p pool) fact(r *rand.Rand) merge.Fact {
	at, v := p.paths[r.Intn(len(p.paths))], p.versions[r.Intn(len(p.versions))]
	n := p.contents[r.Intn(len(p.contents))]
	switch r.Intn(8) {
	case 0, 1:
		return gone(at, v)
	case 2:
		return other(at, v, n)
	}
	return file(at, v, n)
}

func (p pool) facts(r *rand.Rand, n int) []merge.Fact {
	var l []merge.Fact
	for range n {
		l = append(l, p.fact(r))
	}
	return l
}

// small are the vectors with numbers up to n for each of some replicas.
func small(n int, replicas ...int) []vector.Vector {
	l := []vector.Vector{{}}
	for _, replica := range replicas {
		var more []vector.Vector
		for _, v := range l {
			for k := range n + 1 {
				v[replica] = k
				more = append(more, v)
			}
		}
		l = more
	}
	return l
}

// pools have few paths, so that facts meet: those that copies go to among them,
// and such as can have none beside them.
func pools() []pool {
	at24, at25 := "d/"+strings.Repeat("x", 22), "d/"+strings.Repeat("y", 23)
	contents := []int{0, 1, 2}
	var homes, copies []string
	for _, n := range contents {
		homes = append(homes, home(n), copyOf(other(longest, vec(), n)))
		copies = append(copies, beside("a", n), copyOf(other("a", vec(), n)))
	}
	two, three := small(2, 0, 15)[1:], small(1, 0, 7, 15)[1:]
	return []pool{
		{[]string{"a"}, two, contents},
		{[]string{"a", "b"}, three, contents},
		{homes, two, contents},
		{append(slices.Clone(homes), "a"), three, contents},
		{append(slices.Clone(copies), "a"), two, contents},
		{append(slices.Concat(homes, copies), "a", at24, at25), three, contents},
		{append(slices.Concat(homes, copies), "a"), three[:3], []int{1}},
		{[]string{at24, at25, longest, beside(at24, 1), home(1)}, two, contents},
		{[]string{"a", "b", at25}, append(small(0), three...), []int{0, 1, 9}},
	}
}

// checkModel checks Merge, with its arguments in either order.
func checkModel(t *testing.T, a, b []merge.Fact) {
	t.Helper()
	want := mergedOf(slices.Concat(a, b)...)
	for _, l := range [][2][]merge.Fact{{a, b}, {b, a}} {
		if got := merge.Merge(l[0], l[1]); !slices.Equal(got, want) {
			t.Fatalf("P16.1: Merge(%s, %s): %s instead of %s", text(l[0]), text(l[1]), text(got), text(want))
		}
	}
}
