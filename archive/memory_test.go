package archive_test

import (
	"bytes"
	"slices"
	"testing"

	"darner/api"
	"darner/archive"
	"darner/disk"
	"darner/record"
)

// overwrite changes all bytes, also those of the spare capacity, which are there
// for whoever appends. Bytes that are overwritten twice do not become the same
// again.
func overwrite(b []byte) {
	all := b[:cap(b)]
	for i := range all {
		all[i] += 0xa5
	}
}

// overwriteDigests does the same to the digests of a record.
func overwriteDigests(r record.Record) {
	all := r.Blocks[:cap(r.Blocks)]
	for i := range all {
		overwrite(all[i][:])
	}
}

// roomy returns a record whose digests have others around them, which their
// spare capacity can reach, and all these digests.
func roomy(r record.Record) (record.Record, [][32]byte) {
	whole := slices.Concat([][32]byte{{1}}, r.Blocks, [][32]byte{{2}, {3}, {4}})
	r.Blocks = whole[1 : 1+len(r.Blocks)]
	return r, whole
}

func TestSetRecordsAreNotRetained(t *testing.T) {
	for _, r := range several() {
		want := state(0, r)
		a := archive.New()
		for range 2 { // Without a record of the path, and with one.
			set, whole := roomy(r)
			was := slices.Clone(whole)
			checkError(t, "Set", a.Set(set), api.OK)
			if !slices.Equal(whole, was) {
				t.Errorf("R6: Set of %s modifies its argument", r.Path)
			}
			overwriteDigests(set)
			checkSeen(t, "R6: Set, and its argument modified", a, want)
			was = slices.Clone(whole)
			for got := range a.All() {
				overwriteDigests(got)
			}
			if !slices.Equal(whole, was) {
				t.Errorf("R6: All and the argument of Set share memory")
			}
		}
	}
}

func TestResultsAreNewMemory(t *testing.T) {
	l := several()
	a := with(l...)
	want := state(0, l...)
	first, _ := a.Get("a/b")
	second, _ := a.Get("a/b")
	overwriteDigests(first)
	if text(second) != text(live("a/b", 600)) {
		t.Error("R6: results of Get share memory")
	}
	checkSeen(t, "R6: a result of Get modified", a, want)
	var kept []record.Record
	for r := range a.All() {
		kept = append(kept, r)
	}
	for r := range a.All() {
		overwriteDigests(r)
	}
	if state(0, kept...) != want {
		t.Error("R6: results of All share memory")
	}
	checkSeen(t, "R6: results of All modified", a, want)
	encoded, again := a.Bytes(), a.Bytes()
	overwrite(encoded)
	if !bytes.Equal(again, encoding(0, l...)) || !bytes.Equal(a.Bytes(), encoding(0, l...)) {
		t.Error("R6: results of Bytes share memory")
	}
}

func TestCopy(t *testing.T) {
	for _, l := range [][]record.Record{nil, several(), numbered(mostRecords)} {
		for _, generation := range []int{0, 1, 300, maxCount} {
			a, _ := archive.Parse(encoding(generation, l...))
			checkSeen(t, "Copy", a.Copy(), state(generation, l...))
			checkSeen(t, "Copy of a Copy", a.Copy().Copy(), state(generation, l...))
			checkSeen(t, "what was copied", a, state(generation, l...))
		}
	}
}

// TestCopiesAreIndependent: what happens to either of the two does not happen to
// the other one.
func TestCopiesAreIndependent(t *testing.T) {
	l := several()
	want := state(0, l...)
	for _, swapped := range []bool{false, true} {
		a := with(l...)
		b := a.Copy()
		if swapped {
			a, b = b, a
		}
		for r := range a.All() {
			overwriteDigests(r)
		}
		r, _ := a.Get("a/b/c")
		overwriteDigests(r)
		checkSeen(t, "a copy, with digests of the other one modified", b, want)
		a.Set(live("new", 5))
		a.Set(live("a/b", 900))
		checkSeen(t, "a copy, with records of the other one set", b, want)
		for _, r := range l {
			a.Drop(r.Path)
		}
		checkSeen(t, "a copy, with records of the other one dropped", b, want)
		checkError(t, "Save", a.Save(disk.New(1<<20), 1), api.OK)
		checkSeen(t, "a copy, with the other one saved", b, want)
		checkSeen(t, "what was changed", a, state(1, live("new", 5)))
	}
}

func TestParseSharesNoMemory(t *testing.T) {
	l := several()
	whole := slices.Concat([]byte("before"), encoding(3, l...), []byte("behind"), make([]byte, 300))
	b := whole[6 : len(whole)-306]
	was := bytes.Clone(whole)
	first, e := archive.Parse(b)
	second, _ := archive.Parse(b)
	if e != api.OK || !bytes.Equal(whole, was) {
		t.Errorf("R6: Parse modifies its argument, or returns error %d", e)
	}
	for r := range first.All() {
		overwriteDigests(r)
	}
	first.Bytes()
	if !bytes.Equal(whole, was) {
		t.Error("R6: the result of Parse and its argument share memory")
	}
	overwrite(b)
	first.Drop("a/b")
	checkSeen(t, "Parse, and its argument and another result modified", second, state(3, l...))
}

// TestParseDependsOnItsBytes: not on those behind them.
func TestParseDependsOnItsBytes(t *testing.T) {
	b := encoding(3, several()...)
	for n := 0; n <= len(b); n++ {
		want, wantError := archive.Parse(bytes.Clone(b[:n])[:n:n])
		if got, e := archive.Parse(b[:n]); e != wantError || seen(got) != seen(want) {
			t.Errorf("R8: Parse of %d bytes: error %d instead of %d", n, e, wantError)
		}
	}
}

// TestSavedCopiesAreIndependent: of each other, and of the archive.
func TestSavedCopiesAreIndependent(t *testing.T) {
	l := several()
	a, d := with(l...), disk.New(1<<20)
	checkError(t, "Save", a.Save(d, 1), api.OK)
	loaded, _, _ := archive.Load(d)
	again, _, _ := archive.Load(d)
	d.Rot(first, 40, 255)
	checkSeen(t, "an archive, with a copy rotted", a, state(1, l...))
	checkSeen(t, "a loaded archive, with a copy rotted", loaded, state(1, l...))
	if b, _ := d.Read(second); !bytes.Equal(b, encoding(1, l...)) {
		t.Error("P11.1: the two copies on the disk share memory")
	}
	loaded.Drop("a/b")
	a.Set(live("new", 1))
	checkSeen(t, "a loaded archive, with others changed", again, state(1, l...))
	if b, _ := d.Read(second); !bytes.Equal(b, encoding(1, l...)) {
		t.Error("P11.1: Set changes what was saved")
	}
}
