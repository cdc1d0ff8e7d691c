package merge

import (
	"slices"

	"darner/path"
	"darner/vector"
)

// Holds returns the paths of the facts that are not deleted and clash with an
// earlier one that is neither deleted nor returned itself.
func Holds(l []Fact) []string {
	var free, held []string
next:
	for _, f := range l {
		if f.Dead {
			continue
		}
		for _, earlier := range free {
			if path.Clash(f.Path, earlier) {
				held = append(held, f.Path)
				continue next
			}
		}
		free = append(free, f.Path)
	}
	return held
}

// Expire returns the facts that are not deleted, and those whose version is not
// covered by every vector; all if there is no vector.
func Expire(l []Fact, seen ...vector.Vector) []Fact {
	return only(l, func(f Fact) bool {
		unseen := slices.ContainsFunc(seen, func(v vector.Vector) bool { return !covers(v, f.Version) })
		return !f.Dead || unseen || len(seen) == 0
	})
}

// Moves returns the old and the new path of the files that have another one now,
// as far as their contents tell.
func Moves(old, now []Fact) [][2]string {
	var moves [][2]string
	came := without(now, old)
	for _, f := range without(old, now) {
		i := slices.IndexFunc(came, func(other Fact) bool { return other.same(f) })
		if i < 0 {
			continue
		}
		moves = append(moves, [2]string{f.Path, came[i].Path})
		came = slices.Delete(came, i, i+1) // No file can have come from two paths.
	}
	return moves
}

// without returns the facts that are not deleted and whose paths do not exist in
// another list.
func without(l, other []Fact) []Fact {
	exists := map[string]struct{}{}
	for _, f := range other {
		if !f.Dead {
			exists[f.Path] = struct{}{}
		}
	}
	return only(l, func(f Fact) bool {
		_, isThere := exists[f.Path]
		return !f.Dead && !isThere
	})
}

// covers reports whether none of v's numbers is less than that of other.
func covers(v, other vector.Vector) bool {
	order := vector.Compare(other, v)
	return order == 0 || order == -1
}
