package ward_test

import (
	"bytes"
	"fmt"
	"slices"
	"testing"

	"darner/api"
	"darner/ward"
)

// overwrite changes all bytes, also those of the spare capacity.
func overwrite(b []byte) {
	all := b[:cap(b)]
	for i := range all {
		all[i] += 0xa5
	}
}

// overwriteAll sets all elements, also those of the spare capacity.
func overwriteAll[E any](l []E, x E) {
	all := l[:cap(l)]
	for i := range all {
		all[i] = x
	}
}

// TestResultsAreNewMemory: those of Held, Paths and Bytes.
func TestResultsAreNewMemory(t *testing.T) {
	for _, l := range append(examples(), greatest()...) {
		w := with(l...)
		want := seen(w)
		paths, morePaths := w.Paths(), w.Paths()
		wasPaths := slices.Clone(paths)
		overwriteAll(paths, "spoilt")
		if !slices.Equal(morePaths, wasPaths) {
			t.Error("R6, P15.1: two results of Paths share memory")
		}
		for _, f := range l {
			held, more := w.Held(f.path), w.Held(f.path)
			was := slices.Clone(held)
			overwriteAll(held, -7)
			if !slices.Equal(more, was) {
				t.Error("R6, P15.1: two results of Held share memory")
			}
		}
		b, again := w.Bytes(), w.Bytes()
		overwrite(b)
		if !bytes.Equal(again, sealed(body(l...))) || !bytes.Equal(w.Bytes(), again) {
			t.Error("R6, P15.1: results of Bytes share memory")
		}
		if got := seen(w); got != want {
			t.Errorf("R6, P15.1: a ward whose results were overwritten: %.300s instead of %.300s", got, want)
		}
	}
}

// TestResultsAreKept: what is done later on does not change them.
func TestResultsAreKept(t *testing.T) {
	w := with(blocksOf("a", 5), one("b", 3, 1))
	held, paths, b := w.Held("a"), w.Paths(), w.Bytes()
	w.Free("a", 0)
	w.Hold("a", 9, 1)
	w.Hold("0", 9, 1)
	w.Move("b", "a")
	w.Drop("a")
	if got := fmt.Sprint(held, paths); got != "[0 1 2 3 4] [a b]" {
		t.Errorf("R6, P15.1: earlier results have become %s", got)
	}
	checkParse(t, "an earlier result of Bytes", b, seen(with(blocksOf("a", 5), one("b", 3, 1))), api.OK)
}

// TestParseSharesNoMemory: neither with its argument, which it does not modify, nor
// with another result.
func TestParseSharesNoMemory(t *testing.T) {
	for _, l := range append(examples(), greatest()...) {
		front := sealed(body(l...))
		whole := slices.Concat([]byte("before"), front, []byte("behind"), make([]byte, 300))
		b := whole[6 : 6+len(front)]
		was := bytes.Clone(whole)
		first, e := ward.Parse(b)
		second, _ := ward.Parse(b)
		if e != api.OK || !bytes.Equal(whole, was) {
			t.Fatalf("R6, P15.1: Parse modifies its argument, or returns error %d", e)
		}
		overwrite(first.Bytes())
		if !bytes.Equal(whole, was) {
			t.Error("R6, P15.1: the result of Parse and its argument share memory")
		}
		overwrite(whole)
		for _, p := range first.Paths() {
			first.Drop(p)
		}
		if got, want := seen(second), seen(with(l...)); got != want {
			t.Errorf("R6, P15.1: Parse, with its argument and another result modified: %.300s instead of %.300s", got, want)
		}
	}
}

// TestParseDependsOnItsBytes: not on those behind them, in their spare capacity.
func TestParseDependsOnItsBytes(t *testing.T) {
	b := sealed(body(examples()[5]...))
	for n := 0; n <= len(b); n++ {
		want, wantError := ward.Parse(bytes.Clone(b[:n])[:n:n])
		if got, e := ward.Parse(b[:n]); e != wantError || seen(got) != seen(want) {
			t.Errorf("R8, P15.1: Parse of %d bytes: error %d instead of %d", n, e, wantError)
		}
	}
}

// TestSameCallsSameResults: R8.
func TestSameCallsSameResults(t *testing.T) {
	var all []string
	for range 8 {
		w := ward.New()
		out := ""
		for i := range 200 {
			x := fmt.Sprint("f", (7*i)%13)
			out += fmt.Sprint(w.Hold(x, (11*i)%64, 1+i%3), w.Serve(x, i%60, i%60+3))
			if i%20 == 19 {
				out += fmt.Sprint(w.Drop(fmt.Sprint("f", i%13)), w.Move(x, fmt.Sprint("f", i%17)), w.Free(x, i%64))
			}
			out += fmt.Sprintf("%s %x", seen(w), w.Bytes())
		}
		all = append(all, out)
	}
	if len(slices.Compact(all)) != 1 {
		t.Error("R8, P15.1: the same calls have different results")
	}
}
