package lane_test

import (
	"fmt"
	"math/rand"
	"slices"
	"strings"
	"testing"

	"darner/api"
	"darner/lane"
)

// isBudget reports whether there is such a budget.
func isBudget(b int) bool {
	for half := range 500 {
		if b == 2*(half+1) {
			return true
		}
	}
	return false
}

// An entry is a file of the model.
type entry struct {
	path         string
	blocks, done int
	enrol        bool
	put          int // The number of the call that put it.
	tick         int
}

// A model does what the chapter says, block by block, with all files in one list,
// in no order.
type model struct {
	clock, puts int
	files       []*entry
}

func (m *model) find(p string) *entry {
	for _, f := range m.files {
		if f.path == p {
			return f
		}
	}
	return nil
}

// put puts a file that Put accepts.
func (m *model) put(p string, blocks int) {
	m.drop(p)
	m.puts++
	m.files = append(m.files, &entry{path: p, blocks: blocks, enrol: true, put: m.puts})
}

func (m *model) drop(p string) api.Errno {
	var others []*entry
	for _, f := range m.files {
		if f.path != p {
			others = append(others, f)
		}
	}
	found := len(others) < len(m.files)
	m.files = others
	if !found {
		return api.ErrNone
	}
	return api.OK
}

// tick does the blocks of a tick with a budget that there is.
func (m *model) tick(b int) []lane.Work {
	m.clock++
	var l []lane.Work
	used := 0
	for f := m.first(true); f != nil && (used < b/2 || f.done == f.blocks); f = m.first(true) {
		l = append(l, m.work(f, &used, b/2))
	}
	for f := m.first(false); f != nil && (used < b || f.done == f.blocks); f = m.first(false) {
		l = append(l, m.work(f, &used, b))
	}
	return l
}

// work does blocks of a file as long as fewer than most are used.
func (m *model) work(f *entry, used *int, most int) lane.Work {
	w := lane.Work{Path: f.path, From: f.done, Enrol: f.enrol}
	for *used < most && f.done < f.blocks {
		f.done++
		*used++
	}
	w.To = f.done
	if f.done == f.blocks {
		w.Done = true
		f.done, f.enrol, f.tick = 0, false, m.clock
	}
	return w
}

// first returns the file whose turn it is in a lane, nil if there is none.
func (m *model) first(enrol bool) *entry {
	var best *entry
	for _, f := range m.files {
		switch {
		case f.enrol != enrol || !enrol && f.tick == m.clock:
		case best == nil:
			best = f
		case enrol && f.put < best.put:
			best = f
		case !enrol && (f.tick < best.tick || f.tick == best.tick && f.path < best.path):
			best = f
		}
	}
	return best
}

func (m *model) last(p string) (int, api.Errno) {
	f := m.find(p)
	switch {
	case f == nil:
		return 0, api.ErrNone
	case f.enrol:
		return -1, api.OK
	}
	return f.tick, api.OK
}

func (m *model) blocks() int {
	n := 0
	for _, f := range m.files {
		n += f.blocks
	}
	return n
}

func (m *model) waiting() []string {
	var l []*entry
	for _, f := range m.files {
		if f.enrol {
			l = append(l, f)
		}
	}
	slices.SortFunc(l, func(f, g *entry) int { return f.put - g.put })
	var paths []string
	for _, f := range l {
		paths = append(paths, f.path)
	}
	return paths
}

// A pair is lanes and their model, for which the same is done.
type pair struct {
	t    *testing.T
	what string
	l    *lane.Lanes
	m    *model
}

func newPair(t *testing.T, what string) pair {
	return pair{t, what, lane.New(), &model{}}
}

// check checks all that can be seen of the lanes, and Last of some more paths.
func (p pair) check(after string, more ...string) {
	p.t.Helper()
	if got := p.l.Clock(); got != p.m.clock {
		p.t.Fatalf("P14.1: %s: after %s, Clock: %d instead of %d", p.what, after, got, p.m.clock)
	}
	if got, want := p.l.Blocks(), p.m.blocks(); got != want {
		p.t.Fatalf("P14.1: %s: after %s, Blocks: %d instead of %d", p.what, after, got, want)
	}
	if got, want := p.l.Waiting(), p.m.waiting(); !slices.Equal(got, want) {
		p.t.Fatalf("P14.1: %s: after %s, Waiting: %q instead of %q", p.what, after, got, want)
	}
	for _, f := range p.m.files {
		more = append(more, f.path)
	}
	for _, x := range more {
		got, e := p.l.Last(x)
		want, wantE := p.m.last(x)
		if got != want || e != wantE {
			p.t.Fatalf("P14.1: %s: after %s, Last(%q): %d, %d instead of %d, %d", p.what, after, x, got, e, want, wantE)
		}
	}
}

// put puts a file of kind 3, or returns the error for its blocks.
func (p pair) put(x string, blocks int) {
	p.t.Helper()
	want := api.OK
	if blocks < 0 || blocks > 64 {
		want = api.ErrRange
	} else {
		p.m.put(x, blocks)
	}
	after := fmt.Sprintf("Put(%q, %d)", x, blocks)
	if e := p.l.Put(x, blocks); e != want {
		p.t.Fatalf("P14.1: %s: %s: %d instead of %d", p.what, after, e, want)
	}
	p.check(after, x)
}

func (p pair) drop(x string) {
	p.t.Helper()
	after := fmt.Sprintf("Drop(%q)", x)
	if e, want := p.l.Drop(x), p.m.drop(x); e != want {
		p.t.Fatalf("P14.1: %s: %s: %d instead of %d", p.what, after, e, want)
	}
	p.check(after, x)
}

// tick returns what was done.
func (p pair) tick(b int) []lane.Work {
	p.t.Helper()
	var want []lane.Work
	wantE := api.ErrRange
	if isBudget(b) {
		want, wantE = p.m.tick(b), api.OK
	}
	after := fmt.Sprintf("Tick(%d)", b)
	got, e := p.l.Tick(b)
	if e != wantE || !slices.Equal(got, want) {
		p.t.Fatalf("P14.1: %s: %s: %v, %d instead of %v, %d", p.what, after, got, e, want, wantE)
	}
	p.check(after)
	return got
}

// text tells pieces of work, such as "a:0-2e" for two blocks in the enrol lane, and
// "b:2-3s!" for one in the scrub lane that finishes the file.
func text(l []lane.Work) string {
	var words []string
	for _, w := range l {
		s := fmt.Sprintf("%s:%d-%d", w.Path, w.From, w.To)
		if w.Enrol {
			s += "e"
		} else {
			s += "s"
		}
		if w.Done {
			s += "!"
		}
		words = append(words, s)
	}
	return strings.Join(words, " ")
}

// do checks what is done in a tick.
func (p pair) do(b int, want string) {
	p.t.Helper()
	if got := text(p.tick(b)); got != want {
		p.t.Errorf("P14.1: %s: tick %d with budget %d: %q instead of %q", p.what, p.m.clock, b, got, want)
	}
}

// putAll puts files of so many blocks, by the letters of the alphabet.
func (p pair) putAll(blocks ...int) {
	p.t.Helper()
	for i, n := range blocks {
		p.put(string(rune('a'+i)), n)
	}
}

// someBudget returns one that there is, more often a small one.
func someBudget(r *rand.Rand) int {
	if r.Intn(3) > 0 {
		return 2 * (1 + r.Intn(10))
	}
	return 2 * (1 + r.Intn(500))
}

// TestRandomCalls: of all functions, for few and for many files, of few and of many
// blocks.
func TestRandomCalls(t *testing.T) {
	seeds := 600
	if testing.Short() {
		seeds = 60
	}
	for seed := range seeds {
		r := rand.New(rand.NewSource(int64(seed)))
		p := newPair(t, fmt.Sprint("seed ", seed))
		files, blocks := 1+r.Intn(12), r.Intn(65)
		for range 120 {
			x := fmt.Sprint("f", r.Intn(files))
			switch r.Intn(12) {
			case 0, 1, 2:
				p.put(x, r.Intn(blocks+1))
			case 3:
				p.put(x, []int{-1, 0, 1, 64, 65}[r.Intn(5)])
			case 4:
				p.drop(x)
			case 5:
				p.tick(r.Intn(1010) - 4)
			default:
				p.tick(someBudget(r))
			}
		}
	}
}

// TestManyFiles: more than a disk can have, which stay for many ticks.
func TestManyFiles(t *testing.T) {
	r := rand.New(rand.NewSource(1))
	p := newPair(t, "many files")
	for _, i := range r.Perm(300) {
		p.put(fmt.Sprint("d/f", i), r.Intn(65))
	}
	for n := range 1500 {
		p.tick(2 * (1 + (7*n)%500))
		if n%50 == 49 {
			p.drop(fmt.Sprint("d/f", r.Intn(300)))
			p.put(fmt.Sprint("d/f", r.Intn(300)), r.Intn(65))
		}
	}
}
