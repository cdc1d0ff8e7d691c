package disk

import (
	"maps"
	"strings"

	"darner/path"
)

// Stamp tells how many bytes of a file were written, when, and by which change.
type Stamp struct{ Size, Time, Change int }

// file is what was written at once. All states and changes that have it share
// its bytes, so that these rot everywhere.
type file struct {
	Stamp
	bytes []byte
}

// state is the files, by path, at some time.
type state map[string]file

// change does to a state what was done, or would have been done, to a disk.
type change func(s state)

// writing returns the change that a file is written. The changes keep a path
// alone, not a greater text of which it may be a part.
func writing(p string, f file) change {
	p = strings.Clone(p)
	return func(s state) { s.put(p, f) }
}

// renaming returns the change that a file is renamed.
func renaming(from, to string) change {
	from, to = strings.Clone(from), strings.Clone(to)
	return func(s state) {
		// It is missing where the change that created it was not kept.
		f, there := s[from]
		if !there {
			return
		}
		delete(s, from)
		s.put(to, f)
	}
}

// removing returns the change that a file is removed.
func removing(p string) change {
	p = strings.Clone(p)
	return func(s state) { delete(s, p) }
}

// put gives a file a path, in place of the file that had it, and of those that
// clash with it: there are some where the change that removed them was not kept.
func (s state) put(p string, f file) {
	maps.DeleteFunc(s, func(other string, _ file) bool { return path.Clash(other, p) })
	s[p] = f
}

// clashes reports whether p clashes with the path of a file other than except.
func (s state) clashes(p, except string) bool {
	for other := range s {
		if other != except && path.Clash(other, p) {
			return true
		}
	}
	return false
}
