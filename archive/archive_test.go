package archive_test

import (
	"fmt"
	"maps"
	"math"
	"math/rand"
	"slices"
	"strings"
	"testing"

	"darner/api"
	"darner/archive"
	"darner/disk"
	"darner/record"
	"darner/vector"
)

const (
	maxFile     = 16384
	maxCount    = 1 << 40
	mostRecords = 128
)

// longest is a path of the greatest length.
var longest = strings.Repeat("long/", 19) + "paths"

// content returns bytes, others for each number.
func content(n int) []byte {
	b := make([]byte, n)
	x := uint64(n)
	for i := range b {
		x = x*6364136223846793005 + 1442695040888963407
		b[i] = byte(x >> 56)
	}
	return b
}

// live is the record of n bytes.
func live(p string, n int) record.Record {
	r, e := record.Of(p, content(n), disk.Stamp{Time: 5, Change: n}, vector.Vector{0: 1, 3: 300})
	if e != api.OK {
		panic(fmt.Sprint("no record of ", p, ": ", e))
	}
	return r
}

// dead is the record of a deleted file.
func dead(p string) record.Record {
	r, e := record.Gone(p, disk.Stamp{Time: 7, Change: 8}, vector.Vector{15: maxCount})
	if e != api.OK {
		panic(fmt.Sprint("no record of ", p, ": ", e))
	}
	return r
}

// numbered returns n records, each of another path, in increasing order.
func numbered(n int) []record.Record {
	var l []record.Record
	for i := range n {
		p := fmt.Sprintf("d/f%03d", i)
		if i%3 == 0 {
			l = append(l, dead(p))
		} else {
			l = append(l, live(p, 100*i))
		}
	}
	return l
}

// several are records of all kinds, in increasing order of the paths.
func several() []record.Record {
	return []record.Record{
		live("+", 0), dead("A"), live("B/c", 1), dead("a"), live("a-", 256), live("a.b", 257), live("a/b", 600),
		live("a/b/c", maxFile), live("a0", 3), dead(longest), live("~", 512),
	}
}

// with returns an archive of records.
func with(l ...record.Record) *archive.Archive {
	a := archive.New()
	for _, r := range l {
		if e := a.Set(r); e != api.OK {
			panic(fmt.Sprint("Set of ", r.Path, ": ", e))
		}
	}
	return a
}

// text is all of a record.
func text(r record.Record) string {
	return fmt.Sprintf("%q %v %v %t %x %x", r.Path, r.Stamp, r.Version, r.Dead, r.Whole, r.Blocks)
}

// seen is all of an archive, as All yields it.
func seen(a *archive.Archive) string {
	if a == nil {
		return "none"
	}
	var out strings.Builder
	fmt.Fprint(&out, a.Generation(), " ", a.Len())
	for r := range a.All() {
		out.WriteString("\n" + text(r))
	}
	return out.String()
}

// state is what seen is to be of an archive of records, in increasing order.
func state(generation int, l ...record.Record) string {
	var out strings.Builder
	fmt.Fprint(&out, generation, " ", len(l))
	for _, r := range l {
		out.WriteString("\n" + text(r))
	}
	return out.String()
}

// sorted are the values of a map by increasing path.
func sorted(m map[string]record.Record) []record.Record {
	var l []record.Record
	for _, p := range slices.Sorted(maps.Keys(m)) {
		l = append(l, m[p])
	}
	return l
}

func checkSeen(t *testing.T, what string, a *archive.Archive, want string) {
	t.Helper()
	if got := seen(a); got != want {
		t.Errorf("P11.1: %s: %.1000s\ninstead of %.1000s", what, got, want)
	}
}

func checkError(t *testing.T, what string, got, want api.Errno) {
	t.Helper()
	if got != want {
		t.Errorf("P11.1: %s: error %d instead of %d", what, got, want)
	}
}

func checkGet(t *testing.T, a *archive.Archive, p string, want record.Record, wantThere bool) {
	t.Helper()
	if got, there := a.Get(p); text(got) != text(want) || there != wantThere {
		t.Errorf("P11.1: Get of %q: %.300s, %t instead of %.300s, %t", p, text(got), there, text(want), wantThere)
	}
}

func TestNew(t *testing.T) {
	a, b := archive.New(), archive.New()
	checkSeen(t, "New", a, state(0))
	if a.Len() != 0 || a.Generation() != 0 {
		t.Errorf("P11.1: New: %d records, generation %d", a.Len(), a.Generation())
	}
	checkGet(t, a, "a", record.Record{}, false)
	checkError(t, "Drop of an empty archive", a.Drop("a"), api.ErrNone)
	a.Set(live("a", 3))
	checkSeen(t, "New, and Set for another one", b, state(0))
	checkSeen(t, "New after Set for another one", archive.New(), state(0))
}

func TestSetAndGet(t *testing.T) {
	a := archive.New()
	l := several()
	for i, r := range l {
		checkGet(t, a, r.Path, record.Record{}, false)
		checkError(t, "Set of "+r.Path, a.Set(r), api.OK)
		checkGet(t, a, r.Path, r, true)
		checkSeen(t, "Set of "+r.Path, a, state(0, l[:i+1]...))
	}
	for _, r := range l {
		checkGet(t, a, r.Path, r, true)
	}
	for _, p := range []string{"", "/", "b", "a/", "a/b/", "a/b/c/d", "long", ".par~archive.0", "\xff", longest + "x", longest[1:], "aa"} {
		checkGet(t, a, p, record.Record{}, false)
	}
}

// TestSetAgain: a record replaces another one of its path, whatever the two are.
func TestSetAgain(t *testing.T) {
	older := live("b", 300)
	older.Version = vector.Vector{0: 1}
	stamped := live("b", 300)
	stamped.Stamp.Time = math.MaxInt
	l := []record.Record{live("b", 300), live("b", 0), dead("b"), older, live("b", maxFile), stamped, live("b", 300)}
	for _, before := range l {
		for _, r := range l {
			a := with(dead("a"), before, live("c", 1))
			checkError(t, "Set of a path that has a record", a.Set(r), api.OK)
			checkSeen(t, "Set of a path that has a record", a, state(0, dead("a"), r, live("c", 1)))
		}
	}
}

// invalid are records of a path that are not valid.
func invalid(p string) []record.Record {
	var l []record.Record
	add := func(change func(r *record.Record)) {
		for _, r := range []record.Record{live(p, 300), live(p, 0), dead(p)} {
			change(&r)
			if r.Good() {
				panic("the record is valid: " + text(r))
			}
			l = append(l, r)
		}
	}
	for _, other := range []string{"", "/", "a/", "a//b", "..", "ä", longest + "x", "a/.tmp~b", ".par~x", ".par~archive.0", ".par~archive.1"} {
		add(func(r *record.Record) { r.Path = other })
	}
	for _, v := range []vector.Vector{{}, {-1}, {15: maxCount + 1}, {1, -1}} {
		add(func(r *record.Record) { r.Version = v })
	}
	for _, size := range []int{-1, math.MinInt, 513, maxFile, maxFile + 1, math.MaxInt} {
		add(func(r *record.Record) { r.Stamp.Size = size })
	}
	add(func(r *record.Record) { r.Stamp.Time = -1 })
	add(func(r *record.Record) { r.Stamp.Change = math.MinInt })
	add(func(r *record.Record) { r.Blocks = append(r.Blocks, [32]byte{}) })
	add(func(r *record.Record) { r.Dead, r.Whole = true, [32]byte{1} })
	return append(l, record.Record{}, record.Record{Path: p}, record.Record{Path: p, Dead: true})
}

func TestSetOfInvalidRecords(t *testing.T) {
	for _, l := range [][]record.Record{nil, {live("d/f001", 5)}, several(), numbered(mostRecords)} {
		a := with(l...)
		for _, p := range []string{"d/f001", "new"} {
			for _, r := range invalid(p) {
				checkError(t, "Set of "+text(r), a.Set(r), api.ErrRange)
			}
		}
		checkSeen(t, "R4: Set of records that are not valid", a, state(0, l...))
	}
}

func TestMostRecords(t *testing.T) {
	l := numbered(mostRecords)
	a := archive.New()
	for i, r := range l {
		checkError(t, fmt.Sprint("Set of record ", i+1), a.Set(r), api.OK)
	}
	checkSeen(t, "128 records", a, state(0, l...))
	for _, r := range []record.Record{live("a", 3), dead("z"), live(longest, maxFile), live("d/f000/x", 0)} {
		checkError(t, "Set of record 129", a.Set(r), api.ErrMany)
	}
	checkSeen(t, "R4: Set of record 129", a, state(0, l...))
	for _, i := range []int{0, 77, 127} {
		l[i] = live(l[i].Path, 4000+i)
		checkError(t, "Set of a path that has one of 128 records", a.Set(l[i]), api.OK)
		checkSeen(t, "Set of a path that has one of 128 records", a, state(0, l...))
	}
	checkError(t, "Drop of one of 128 records", a.Drop(l[5].Path), api.OK)
	checkError(t, "Set of record 128", a.Set(live("zz", 1)), api.OK)
	checkError(t, "Set of record 129", a.Set(l[5]), api.ErrMany)
	checkSeen(t, "another record 128", a, state(0, append(slices.Delete(l, 5, 6), live("zz", 1))...))
}

func TestDrop(t *testing.T) {
	l := several()
	for i, r := range l {
		a := with(l...)
		for _, p := range []string{"", "b", "a/", "/a", "B", "long", "\xff"} {
			checkError(t, fmt.Sprintf("Drop of %q", p), a.Drop(p), api.ErrNone)
		}
		checkSeen(t, "R4: Drop of paths without a record", a, state(0, l...))
		rest := slices.Delete(slices.Clone(l), i, i+1)
		checkError(t, "Drop of "+r.Path, a.Drop(r.Path), api.OK)
		checkSeen(t, "Drop of "+r.Path, a, state(0, rest...))
		checkGet(t, a, r.Path, record.Record{}, false)
		checkError(t, "Drop of what was dropped", a.Drop(r.Path), api.ErrNone)
		checkSeen(t, "R4: Drop of what was dropped", a, state(0, rest...))
		checkError(t, "Set of what was dropped", a.Set(r), api.OK)
		checkSeen(t, "Set of what was dropped", a, state(0, l...))
	}
}

// TestAll: in increasing order, whatever the order of the Sets.
func TestAll(t *testing.T) {
	random := rand.New(rand.NewSource(1))
	for _, l := range [][]record.Record{nil, {dead("a")}, several(), numbered(mostRecords)} {
		for range 20 {
			shuffled := slices.Clone(l)
			random.Shuffle(len(l), func(i, k int) { shuffled[i], shuffled[k] = shuffled[k], shuffled[i] })
			a := with(shuffled...)
			checkSeen(t, "All", a, state(0, l...))
			all := a.All()
			for range 2 { // R9: each time it is traversed.
				var got []record.Record
				for r := range all {
					got = append(got, r)
				}
				if state(0, got...) != state(0, l...) {
					t.Errorf("R9: All: %d records", len(got))
				}
			}
		}
	}
}

// TestAllStopped: after each number of records, also within another traversal.
func TestAllStopped(t *testing.T) {
	for _, l := range [][]record.Record{{dead("a")}, several(), numbered(mostRecords)} {
		a := with(l...)
		all := a.All()
		for n := 1; n <= len(l); n++ {
			var got []record.Record
			all(func(r record.Record) bool {
				got = append(got, r)
				return len(got) < n
			})
			if state(0, got...) != state(0, l[:n]...) {
				t.Errorf("R9: All, stopped after %d of %d records: %d records", n, len(l), len(got))
			}
		}
		pairs := 0
		for range all {
			for range all {
				pairs++
			}
		}
		if pairs != len(l)*len(l) {
			t.Errorf("R9: All within All, of %d records: %d pairs", len(l), pairs)
		}
		checkSeen(t, "All, stopped", a, state(0, l...))
	}
}

// TestDropWithinAll: the consumer drops each record that it gets.
func TestDropWithinAll(t *testing.T) {
	l := several()
	a := with(l...)
	var got []record.Record
	for r := range a.All() {
		got = append(got, r)
		checkError(t, "Drop within All", a.Drop(r.Path), api.OK)
	}
	if state(0, got...) != state(0, l...) {
		t.Errorf("P11.1: All, with its records dropped: %d records", len(got))
	}
	checkSeen(t, "All, with its records dropped", a, state(0))
}

func TestKnown(t *testing.T) {
	for p, want := range map[string]bool{
		".par~archive.0": true, ".par~archive.1": true, "": false, ".par~archive.": false, ".par~archive.2": false,
		".par~archive": false, ".par~archive.00": false, ".par~archive.01": false, ".par~archive.0/": false,
		".par~archive.0/x": false, "d/.par~archive.0": false, "/.par~archive.1": false, ".tmp~archive.0": false,
		"archive.0": false, ".par~Archive.0": false, ".par~archive.0 ": false, ".par~archive.0.par~archive.1": false, "a": false,
	} {
		if archive.Known(p) != want {
			t.Errorf("P11.1: Known of %q: %t", p, !want)
		}
	}
}

// TestAnyCalls: any Sets and Drops, of an archive and its copies, each beside a
// map.
func TestAnyCalls(t *testing.T) {
	random := rand.New(rand.NewSource(2))
	for range 30 {
		archives := []*archive.Archive{archive.New()}
		models := []map[string]record.Record{{}}
		for range 400 {
			i := random.Intn(len(archives))
			a, m := archives[i], models[i]
			p := fmt.Sprint("f", random.Intn(150))
			_, there := m[p]
			switch random.Intn(20) {
			case 0, 1, 2:
				want := api.ErrNone
				if there {
					want = api.OK
				}
				checkError(t, "Drop", a.Drop(p), want)
				delete(m, p)
			case 3:
				archives, models = append(archives, a.Copy()), append(models, maps.Clone(m))
			default:
				r := live(p, random.Intn(600))
				want := api.ErrMany
				if there || len(m) < mostRecords {
					want, m[p] = api.OK, r
				}
				checkError(t, "Set", a.Set(r), want)
			}
			checkGet(t, a, p, m[p], len(m) > 0 && m[p].Path == p)
		}
		for i, a := range archives {
			checkSeen(t, "any calls", a, state(0, sorted(models[i])...))
		}
	}
}
