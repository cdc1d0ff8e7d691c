package ward

import (
	"cmp"
	"maps"
	"math"
	"slices"

	"darner/api"
	"darner/codec"
	"darner/sha"
)

// file is what an encoding has of a path.
type file struct {
	path string
	held []holding
}

// holding is that of a block, for a reason.
type holding struct {
	block, reason int
}

// Bytes returns the encoding.
func (w *Ward) Bytes() []byte {
	var out codec.Writer
	out.Number(len(w.held))
	for _, p := range w.Paths() {
		out.Text(p)
		w.held[p].put(&out)
	}
	out.Digest(sha.Sum(out.Done()))
	return out.Done()
}

// Parse returns the ward that bytes are the encoding of. It returns ErrForm if
// they do not have that form, ErrMany if it is for the number of paths, the number
// of blocks of one, or the length of one; ErrDigest if the last digest is wrong;
// ErrForm if paths or blocks are not in order; the error of Hold for the first
// block that has one.
func Parse(b []byte) (*Ward, api.Errno) {
	var files []file
	var last [32]byte
	e := codec.Read(b, func(in *codec.Reader) {
		for range in.Count(mostBlocks) {
			files = append(files, take(in))
		}
		last = in.Digest()
	})
	switch {
	case e != api.OK:
		return nil, e
	case sha.Sum(b[:len(b)-len(last)]) != last:
		return nil, api.ErrDigest
	case !inOrder(files):
		return nil, api.ErrForm
	}
	return holdAll(files)
}

// put writes the number of blocks, and each of them.
func (r reasons) put(out *codec.Writer) {
	out.Number(len(r))
	for _, block := range slices.Sorted(maps.Keys(r)) {
		out.Number(block)
		out.Number(r[block])
	}
}

// take reads a path and its blocks. Any numbers have the right form: those that
// are out of range are refused later on.
func take(in *codec.Reader) file {
	f := file{path: in.Text(api.MaxPath)}
	for range in.Count(mostBlocks) {
		f.held = append(f.held, holding{block: in.Number(math.MaxInt), reason: in.Number(math.MaxInt)})
	}
	return f
}

// inOrder reports whether the paths are strictly increasing, and each has blocks
// that are.
func inOrder(files []file) bool {
	for _, f := range files {
		if len(f.held) == 0 || !increasing(f.held, func(h holding) int { return h.block }) {
			return false
		}
	}
	return increasing(files, func(f file) string { return f.path })
}

// increasing reports whether the key of each element is less than the next one's.
func increasing[E any, K cmp.Ordered](l []E, key func(x E) K) bool {
	for i := range len(l) - 1 {
		if key(l[i]) >= key(l[i+1]) {
			return false
		}
	}
	return true
}

// holdAll returns a ward that holds the blocks of files, or the error of the first
// one that cannot be held.
func holdAll(files []file) (*Ward, api.Errno) {
	w := New()
	for _, f := range files {
		for _, h := range f.held {
			if e := w.Hold(f.path, h.block, h.reason); e != api.OK {
				return nil, e
			}
		}
	}
	return w, api.OK
}
