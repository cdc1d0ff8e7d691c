package merge

import (
	"bytes"
	"cmp"
	"slices"
	"strings"

	"darner/api"
	"darner/path"
	"darner/record"
	"darner/sha"
	"darner/vector"
)

// fileKind is the kind of the paths that files have: neither temp paths nor
// those of sidecars.
const fileKind = 3

// Fact is what is known of a path.
type Fact struct {
	Path    string
	Version vector.Vector
	Dead    bool     // The file is deleted.
	Size    int      // That of the file,
	Whole   [32]byte // and the digest of its bytes.
}

// Of returns the fact of a record.
func Of(r record.Record) Fact {
	return Fact{Path: r.Path, Version: r.Version, Dead: r.Dead, Size: r.Stamp.Size, Whole: r.Whole}
}

// Good reports whether a fact is valid.
func (f Fact) Good() bool {
	return path.Kind(f.Path) == fileKind &&
		f.Version.Good() && f.Version != vector.Vector{} &&
		f.Size >= 0 && f.Size <= api.MaxFile &&
		(!f.Dead || f.same(Fact{}))
}

// Home returns the home of a valid fact.
func (f Fact) Home() string {
	home, _ := path.Home(f.Size, sha.Text(f.Whole))
	return home
}

// Order returns -1, 0 or 1: by path, by version, deleted ones first, by size, by
// digest.
func Order(a, b Fact) int {
	return cmp.Or(
		strings.Compare(a.Path, b.Path),
		slices.Compare(a.Version[:], b.Version[:]),
		cmp.Compare(a.life(), b.life()),
		cmp.Compare(a.Size, b.Size),
		bytes.Compare(a.Whole[:], b.Whole[:]),
	)
}

// same reports whether two facts have the same content.
func (f Fact) same(other Fact) bool {
	return f.Size == other.Size && f.Whole == other.Whole
}

// life is 0 for a deleted fact, 1 for others.
func (f Fact) life() int {
	if f.Dead {
		return 0
	}
	return 1
}

// copied returns a valid fact with the path of its conflict copy.
func (f Fact) copied() Fact {
	f.Path, _ = path.Copy(f.Path, f.Size, sha.Text(f.Whole))
	return f
}
