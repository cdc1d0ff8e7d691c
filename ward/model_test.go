package ward_test

import (
	"bytes"
	"crypto/sha256"
	"encoding/binary"
	"fmt"
	"math"
	"math/rand"
	"regexp"
	"slices"
	"strings"
	"testing"

	"darner/api"
	"darner/ward"
)

var nameForm = regexp.MustCompile(`^[a-zA-Z0-9_.~+-]+$`)

// isFile is what the chapters call a path of kind 3.
func isFile(p string) bool {
	names := strings.Split(p, "/")
	for _, name := range names {
		if !nameForm.MatchString(name) || name == "." || name == ".." {
			return false
		}
	}
	last := names[len(names)-1]
	return len(p) <= 100 && !strings.HasPrefix(last, ".tmp~") && !strings.HasPrefix(last, ".par~")
}

// A place is that of a block.
type place struct {
	path  string
	block int
}

// A model does what the chapter says with one flat list: reasons by place.
type model map[place]int

func (m model) hold(p string, block, reason int) api.Errno {
	_, held := m[place{p, block}]
	switch {
	case !isFile(p):
		return api.ErrPath
	case block < 0 || block > 63 || reason < 1 || reason > 3:
		return api.ErrRange
	case !held && len(m) == 1000:
		return api.ErrMany
	}
	m[place{p, block}] = reason
	return api.OK
}

func (m model) free(p string, block int) api.Errno {
	if _, held := m[place{p, block}]; !held {
		return api.ErrNone
	}
	delete(m, place{p, block})
	return api.OK
}

func (m model) drop(p string) int {
	blocks := m.held(p)
	for _, block := range blocks {
		m.free(p, block)
	}
	return len(blocks)
}

func (m model) move(from, to string) api.Errno {
	blocks := m.held(from)
	switch {
	case len(blocks) == 0:
		return api.ErrNone
	case !isFile(to):
		return api.ErrPath
	case from == to:
		return api.OK
	}
	m.drop(to)
	for _, block := range blocks {
		m[place{to, block}] = m[place{from, block}]
		m.free(from, block)
	}
	return api.OK
}

func (m model) held(p string) []int {
	var l []int
	for block := range 64 {
		if m[place{p, block}] != 0 {
			l = append(l, block)
		}
	}
	return l
}

func (m model) why(p string, block int) (int, api.Errno) {
	if reason, held := m[place{p, block}]; held {
		return reason, api.OK
	}
	return 0, api.ErrNone
}

func (m model) serve(p string, from, to int) api.Errno {
	if from < 0 || from > to || to > 64 {
		return api.ErrRange
	}
	for i := from; i < to; i++ {
		if _, held := m[place{p, i}]; held {
			return api.ErrHold
		}
	}
	return api.OK
}

func (m model) paths() []string {
	var l []string
	for at := range m {
		l = append(l, at.path)
	}
	slices.Sort(l)
	return slices.Compact(l)
}

// encoding is that of the ward, as the chapter defines it.
func (m model) encoding() []byte {
	var l []files
	for _, p := range m.paths() {
		f := files{path: p}
		for _, block := range m.held(p) {
			f.blocks = append(f.blocks, [2]int{block, m[place{p, block}]})
		}
		l = append(l, f)
	}
	return sealed(body(l...))
}

// files are what an encoding has of a path: the numbers and reasons of blocks.
type files struct {
	path   string
	blocks [][2]int
}

// body is what the last digest of an encoding is the digest of.
func body(l ...files) []byte {
	b := binary.AppendUvarint(nil, uint64(len(l)))
	for _, f := range l {
		b = append(binary.AppendUvarint(b, uint64(len(f.path))), f.path...)
		b = binary.AppendUvarint(b, uint64(len(f.blocks)))
		for _, x := range f.blocks {
			b = binary.AppendUvarint(b, uint64(x[0]))
			b = binary.AppendUvarint(b, uint64(x[1]))
		}
	}
	return b
}

// sealed returns bytes with their digest behind them.
func sealed(b []byte) []byte {
	d := sha256.Sum256(b)
	return append(bytes.Clone(b), d[:]...)
}

// A pair is a ward and its model, for which the same is done.
type pair struct {
	t    *testing.T
	what string
	w    *ward.Ward
	m    model
}

func newPair(t *testing.T, what string) pair {
	return pair{t, what, ward.New(), model{}}
}

func (p pair) fail(after string, result, got, want any) {
	p.t.Helper()
	p.t.Fatalf("P15.1: %s: after %s, %s: %v instead of %v", p.what, after, result, got, want)
}

// check checks all that can be seen of the ward, also of some more paths.
func (p pair) check(after string, more ...string) {
	p.t.Helper()
	if got, want := p.w.Len(), len(p.m); got != want {
		p.fail(after, "Len", got, want)
	}
	paths := p.m.paths()
	if got := p.w.Paths(); !slices.Equal(got, paths) {
		p.fail(after, "Paths", got, paths)
	}
	for _, x := range append(paths, more...) {
		if got, want := p.w.Held(x), p.m.held(x); !slices.Equal(got, want) {
			p.fail(after, fmt.Sprintf("Held(%q)", x), got, want)
		}
		p.checkBlocks(after, x)
	}
	if got, want := p.w.Bytes(), p.m.encoding(); !bytes.Equal(got, want) {
		p.fail(after, "Bytes", fmt.Sprintf("%x", got), fmt.Sprintf("%x", want))
	}
}

// checkBlocks checks Why and Serve of a path's held blocks, and of some others.
func (p pair) checkBlocks(after, x string) {
	p.t.Helper()
	blocks := []int{math.MinInt, -1, 0, 1, 31, 62, 63, 64, 65, math.MaxInt}
	for _, block := range p.m.held(x) {
		blocks = append(blocks, block-1, block, block+1)
	}
	slices.Sort(blocks)
	for _, block := range slices.Compact(blocks) {
		got, e := p.w.Why(x, block)
		if want, wantE := p.m.why(x, block); got != want || e != wantE {
			p.t.Fatalf("P15.1: %s: after %s, Why(%q, %d): %d, error %d instead of %d, error %d", p.what, after, x, block, got, e, want, wantE)
		}
		p.serve(x, block, block)
		if block < math.MaxInt {
			p.serve(x, block, block+1)
		}
	}
	p.serve(x, 0, 64)
}

// checkRanges checks Serve of all ranges of a path, and of some that there are not.
func (p pair) checkRanges(x string) {
	p.t.Helper()
	bounds := []int{math.MinInt, -65, math.MaxInt}
	for i := -2; i <= 66; i++ {
		bounds = append(bounds, i)
	}
	for _, from := range bounds {
		for _, to := range bounds {
			p.serve(x, from, to)
		}
	}
}

func (p pair) serve(x string, from, to int) {
	p.t.Helper()
	if got, want := p.w.Serve(x, from, to), p.m.serve(x, from, to); got != want {
		p.t.Fatalf("P15.1: %s: Serve(%q, %d, %d): error %d instead of %d", p.what, x, from, to, got, want)
	}
}

// hold returns the error, which the model has, too.
func (p pair) hold(x string, block, reason int) api.Errno {
	p.t.Helper()
	after := fmt.Sprintf("Hold(%q, %d, %d)", x, block, reason)
	e, want := p.w.Hold(x, block, reason), p.m.hold(x, block, reason)
	if e != want {
		p.t.Fatalf("P15.1: %s: %s: error %d instead of %d", p.what, after, e, want)
	}
	p.check(after, x)
	return e
}

// holds holds blocks of a path that the ward has room for.
func (p pair) holds(x string, reason int, blocks ...int) {
	p.t.Helper()
	for _, block := range blocks {
		e, want := p.w.Hold(x, block, reason), p.m.hold(x, block, reason)
		if e != api.OK || want != api.OK {
			p.t.Fatalf("P15.1: %s: Hold(%q, %d, %d): error %d instead of %d", p.what, x, block, reason, e, want)
		}
	}
	p.check(fmt.Sprintf("Hold of blocks %d of %q for reason %d", blocks, x, reason), x)
}

func (p pair) free(x string, block int) api.Errno {
	p.t.Helper()
	after := fmt.Sprintf("Free(%q, %d)", x, block)
	e, want := p.w.Free(x, block), p.m.free(x, block)
	if e != want {
		p.t.Fatalf("P15.1: %s: %s: error %d instead of %d", p.what, after, e, want)
	}
	p.check(after, x)
	return e
}

func (p pair) drop(x string) int {
	p.t.Helper()
	after := fmt.Sprintf("Drop(%q)", x)
	n, want := p.w.Drop(x), p.m.drop(x)
	if n != want {
		p.t.Fatalf("P15.1: %s: %s: %d instead of %d", p.what, after, n, want)
	}
	p.check(after, x)
	return n
}

func (p pair) move(from, to string) api.Errno {
	p.t.Helper()
	after := fmt.Sprintf("Move(%q, %q)", from, to)
	e, want := p.w.Move(from, to), p.m.move(from, to)
	if e != want {
		p.t.Fatalf("P15.1: %s: %s: error %d instead of %d", p.what, after, e, want)
	}
	p.check(after, from, to)
	return e
}

// parsed returns the pair, with the ward that its encoding is parsed to.
func (p pair) parsed() pair {
	p.t.Helper()
	w, e := ward.Parse(p.w.Bytes())
	if e != api.OK {
		p.t.Fatalf("P15.2: %s: Parse of an encoding: error %d", p.what, e)
	}
	p.w = w
	p.check("Bytes and Parse (P15.2)")
	return p
}

// TestRandomCalls: of all functions, for few and for many paths, with arguments
// that are permitted and others.
func TestRandomCalls(t *testing.T) {
	seeds := 120
	if testing.Short() {
		seeds = 20
	}
	for seed := range seeds {
		r := rand.New(rand.NewSource(int64(seed)))
		p := newPair(t, fmt.Sprint("seed ", seed))
		paths, blocks := 1+r.Intn(6), 1+r.Intn(64)
		for range 150 {
			x := []string{"a", "a/b", "b", "a-", "Z", longest}[r.Intn(paths)]
			block := r.Intn(blocks)
			switch r.Intn(12) {
			case 0:
				p.free(x, block)
			case 1:
				p.drop(x)
			case 2:
				p.move(x, []string{"a", "b", "c/d", ".tmp~a", "", longest}[r.Intn(6)])
			case 3:
				p.serve(x, r.Intn(70)-3, r.Intn(70)-3)
			case 4:
				p = p.parsed()
			case 5:
				p.hold(otherPaths[r.Intn(len(otherPaths))], r.Intn(70)-3, r.Intn(6)-1)
			case 6:
				p.hold(x, r.Intn(70)-3, r.Intn(6)-1)
			default:
				p.hold(x, block, 1+r.Intn(3))
			}
		}
	}
}
