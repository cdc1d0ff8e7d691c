package record_test

import (
	"crypto/sha256"
	"fmt"
	"math"
	"math/rand"
	"slices"
	"strings"
	"testing"

	"darner/api"
	"darner/disk"
	"darner/record"
	"darner/vector"
)

const (
	maxFile  = 16384
	maxCount = 1 << 40
)

// sizes are those at which a block begins, their neighbours, and the limit.
var sizes = []int{0, 1, 2, 255, 256, 257, 511, 512, 513, 600, 1000, 16128, 16129, maxFile - 1, maxFile}

// plain are a stamp and a version that are permitted; the Size is to be replaced.
var (
	plain   = disk.Stamp{Size: 99, Time: 5, Change: 6}
	version = vector.Vector{0: 1, 3: 300}
)

// longest is a path of the greatest length.
var longest = strings.Repeat("long/", 19) + "paths"

// content returns bytes whose blocks are all different.
func content(n int) []byte {
	b := make([]byte, n)
	rand.New(rand.NewSource(int64(n))).Read(b)
	return b
}

// cut is what Cut returns, but its blocks are not copied.
func cut(b []byte) [][]byte {
	var l [][]byte
	for len(b) > 256 {
		l = append(l, b[:256])
		b = b[256:]
	}
	if len(b) > 0 {
		l = append(l, b)
	}
	return l
}

// live is the record of bytes, as the chapter defines it.
func live(p string, b []byte, s disk.Stamp, v vector.Vector) record.Record {
	r := record.Record{Path: p, Stamp: disk.Stamp{Size: len(b), Time: s.Time, Change: s.Change}, Version: v, Whole: sha256.Sum256(b)}
	for _, block := range cut(b) {
		r.Blocks = append(r.Blocks, sha256.Sum256(block))
	}
	return r
}

// dead is the record of a deleted file.
func dead(p string, s disk.Stamp, v vector.Vector) record.Record {
	return record.Record{Path: p, Stamp: disk.Stamp{Time: s.Time, Change: s.Change}, Version: v, Dead: true}
}

// sized is the record of bytes of a number.
func sized(n int) record.Record {
	return live("d/x", content(n), plain, version)
}

// equal compares records without Same.
func equal(a, b record.Record) bool {
	return text(a) == text(b)
}

// text is all of a record.
func text(r record.Record) string {
	return fmt.Sprintf("%q %v %v %t %x %x", r.Path, r.Stamp, r.Version, r.Dead, r.Whole, r.Blocks)
}

// clone returns a record that shares no memory with another one.
func clone(r record.Record) record.Record {
	r.Blocks = slices.Clone(r.Blocks)
	return r
}

// pathsByKind are strings of each kind of paths (chapter 7).
func pathsByKind() [4][]string {
	return [4][]string{
		{"", "/", ".", "..", "/a", "a/", "a//b", "a/..", "./a", "a b", "a\x00", "\xff", "ä", longest + "x", strings.Repeat("a", 101), strings.Repeat("a", 300)},
		{".tmp~", ".tmp~x", "a/.tmp~b", ".par~d/.tmp~x"},
		{".par~", ".par~x", "a/.par~b", ".tmp~d/.par~x", ".par~archive.0"},
		{"a", "x", "a/b", ".tmp", ".par", "tmp~x", "x.tmp~", ".tmp~d/x", ".par~d/x", "...", "A-z_0.9~+", longest, "conflict~0~" + strings.Repeat("0", 64)},
	}
}

// versions are vectors, and whether a record may have them as its version.
func versions() map[vector.Vector]bool {
	all := vector.Vector{}
	for replica := range all {
		all[replica] = maxCount
	}
	m := map[vector.Vector]bool{{}: false, all: true}
	for replica := range all {
		for n, permitted := range map[int]bool{
			1: true, 2: true, 127: true, 128: true, maxCount - 1: true, maxCount: true,
			-1: false, math.MinInt: false, maxCount + 1: false, math.MaxInt: false,
		} {
			only, among := vector.Vector{}, all
			only[replica], among[replica] = n, n
			m[only], m[among] = permitted, permitted
		}
		without := all
		without[replica] = 0
		m[without] = true
	}
	return m
}

// checkMade checks a record, or an error, that Of or Gone has returned.
func checkMade(t *testing.T, what string, got record.Record, e api.Errno, want record.Record, wantError api.Errno) {
	t.Helper()
	if wantError != api.OK {
		want = record.Record{}
	}
	if !equal(got, want) || e != wantError {
		t.Errorf("P10.1: %s: %.300s, error %d instead of %.300s, error %d", what, text(got), e, text(want), wantError)
	}
	if e == api.OK && !got.Good() {
		t.Errorf("P10.1: %s: the record is not valid", what)
	}
}

// checkMaking checks Of and Gone, both with the same arguments.
func checkMaking(t *testing.T, p string, b []byte, s disk.Stamp, v vector.Vector, wantOf, wantGone api.Errno) {
	t.Helper()
	what := fmt.Sprintf("(%.120q, %d bytes, %v, %v)", p, len(b), s, v)
	r, e := record.Of(p, b, s, v)
	checkMade(t, "Of"+what, r, e, live(p, b, s, v), wantOf)
	r, e = record.Gone(p, s, v)
	checkMade(t, "Gone"+what, r, e, dead(p, s, v), wantGone)
}

func TestRecordsOfSizes(t *testing.T) {
	for _, n := range sizes {
		b := content(n)
		checkMaking(t, "d/x", b, plain, version, api.OK, api.OK)
		r, _ := record.Of("d/x", b, plain, version)
		if len(r.Blocks) != (n+255)/256 || r.Stamp.Size != n || !r.Fits(b) {
			t.Errorf("P10.1: Of %d bytes: %d digests, Size %d, Fits %t", n, len(r.Blocks), r.Stamp.Size, r.Fits(b))
		}
	}
}

func TestRecordsOfTooManyBytes(t *testing.T) {
	for _, n := range []int{maxFile + 1, maxFile + 255, maxFile + 256, 2 * maxFile, 1 << 20} {
		checkMaking(t, "d/x", content(n), plain, version, api.ErrRange, api.OK)
	}
}

func TestRecordsOfPaths(t *testing.T) {
	for kind, l := range pathsByKind() {
		want := api.ErrPath
		if kind == 3 {
			want = api.OK
		}
		for _, p := range l {
			checkMaking(t, p, content(300), plain, version, want, want)
		}
	}
}

// TestRecordsOfStamps: the number of bytes is the Size, whatever the stamp says.
func TestRecordsOfStamps(t *testing.T) {
	for _, size := range []int{0, 1, 299, 300, 301, maxFile, maxFile + 1, -1, math.MinInt, math.MaxInt} {
		checkMaking(t, "d/x", content(300), disk.Stamp{Size: size, Time: 5, Change: 6}, version, api.OK, api.OK)
	}
	for _, time := range []int{0, 1, 5, maxCount + 1, math.MaxInt, -1, -2, math.MinInt} {
		for _, change := range []int{0, 1, 6, maxCount + 1, math.MaxInt, -1, -2, math.MinInt} {
			want := api.OK
			if time < 0 || change < 0 {
				want = api.ErrRange
			}
			checkMaking(t, "d/x", content(300), disk.Stamp{Size: 1, Time: time, Change: change}, version, want, want)
		}
	}
}

func TestRecordsOfVersions(t *testing.T) {
	for v, permitted := range versions() {
		want := api.OK
		if !permitted {
			want = api.ErrRange
		}
		checkMaking(t, "d/x", content(3), plain, v, want, want)
	}
}

// TestRecordsWithSeveralErrors: all combinations of what is permitted, and what
// is not. A wrong path comes first.
func TestRecordsWithSeveralErrors(t *testing.T) {
	for _, p := range []string{"a", "", "a/", ".tmp~a", "d/.par~a"} {
		for _, n := range []int{0, 300, maxFile + 1} {
			for _, s := range []disk.Stamp{{}, {Time: -1}, {Change: -1}, {Time: -1, Change: -1}, {Size: -1}} {
				for _, v := range []vector.Vector{{1}, {}, {-1}, {15: maxCount + 1}} {
					wantOf, wantGone := api.OK, api.OK
					if s.Time < 0 || s.Change < 0 || v != (vector.Vector{1}) {
						wantOf, wantGone = api.ErrRange, api.ErrRange
					}
					if n > maxFile {
						wantOf = api.ErrRange
					}
					if p != "a" {
						wantOf, wantGone = api.ErrPath, api.ErrPath
					}
					checkMaking(t, p, content(n), s, v, wantOf, wantGone)
				}
			}
		}
	}
}

// variant is a record that differs in one field alone from a valid one, and
// whether it is valid.
type variant struct {
	what  string
	r     record.Record
	valid bool
}

// stampVariants are those of any record whose other fields are for a number of
// bytes.
func stampVariants(r record.Record) []variant {
	var l []variant
	for _, n := range []int{0, 1, 5, 127, 128, maxCount + 1, math.MaxInt, -1, math.MinInt} {
		timed, changed := r, r
		timed.Stamp.Time, changed.Stamp.Change = n, n
		l = append(l, variant{fmt.Sprint("Time ", n), timed, n >= 0}, variant{fmt.Sprint("Change ", n), changed, n >= 0})
	}
	for _, n := range []int{
		-1, -255, -256, -257, math.MinInt, math.MinInt + 255, 0, 1, 255, 256, 257, 511, 512, 513, 700, 767, 768, 769,
		maxFile - 256, maxFile - 255, maxFile, maxFile + 1, maxFile + 256, math.MaxInt - 255, math.MaxInt,
	} {
		other := r
		other.Stamp.Size = n
		permitted := n >= 0 && n <= maxFile && (n+255)/256 == len(r.Blocks) && (n == 0 || !r.Dead)
		l = append(l, variant{fmt.Sprint("Size ", n), other, permitted})
	}
	return l
}

// variants are those of a valid record.
func variants(r record.Record) []variant {
	l := append(stampVariants(r), variant{"nothing", r, true})
	for kind, paths := range pathsByKind() {
		for _, p := range paths {
			other := r
			other.Path = p
			l = append(l, variant{fmt.Sprintf("path %q", p), other, kind == 3})
		}
	}
	for v, permitted := range versions() {
		other := r
		other.Version = v
		l = append(l, variant{fmt.Sprint("version ", v), other, permitted})
	}
	for i := range r.Whole {
		other := r
		other.Whole[i] ^= 1 << (i % 8)
		l = append(l, variant{fmt.Sprintf("Whole in byte %d", i), other, !r.Dead})
	}
	for n := range 70 {
		other := clone(r)
		other.Blocks = append(other.Blocks, make([][32]byte, 70)...)[:n]
		l = append(l, variant{fmt.Sprint(n, " digests"), other, n == len(r.Blocks)})
	}
	other := r
	other.Dead = !r.Dead
	noDigests := len(r.Blocks) == 0 && r.Whole == [32]byte{}
	return append(l, variant{fmt.Sprint("Dead ", other.Dead), other, noDigests})
}

// allVariants are those of records of all kinds.
func allVariants() []variant {
	l := variants(dead("d/x", plain, version))
	for _, n := range []int{0, 1, 256, 257, 600, 768, maxFile - 256, maxFile} {
		l = append(l, variants(sized(n))...)
	}
	// The digest of all bytes may be any one, where a file is not deleted.
	zeros := sized(0)
	zeros.Whole = [32]byte{}
	l = append(l, variants(zeros)...)
	all := sized(600)
	all.Whole, all.Blocks = [32]byte{}, make([][32]byte, 3)
	return append(l, variants(all)...)
}

func TestGood(t *testing.T) {
	for _, c := range allVariants() {
		if got := c.r.Good(); got != c.valid {
			t.Errorf("P10.1: Good of %.300s (%s): %t", text(c.r), c.what, got)
		}
	}
	if (record.Record{}).Good() || (record.Record{Dead: true}).Good() {
		t.Error("P10.1: Good of the zero record")
	}
}

// TestGoodOfSizes: each number of bytes, with each number of digests.
func TestGoodOfSizes(t *testing.T) {
	r := record.Record{Path: "x", Version: version}
	digests := make([][32]byte, 67)
	for size := -300; size <= maxFile+300; size++ {
		for n := range digests {
			r.Stamp.Size, r.Blocks = size, digests[:n]
			want := size >= 0 && size <= maxFile && n*256 >= size && n*256 < size+256
			if r.Good() != want {
				t.Errorf("P10.1: Good of Size %d with %d digests: %t", size, n, r.Good())
			}
		}
	}
}

func checkSame(t *testing.T, a, b record.Record, want bool) {
	t.Helper()
	if record.Same(a, b) != want || record.Same(b, a) != want {
		t.Errorf("P10.1: Same of %.300s and %.300s: %t", text(a), text(b), !want)
	}
}

func TestSameOfEqualRecords(t *testing.T) {
	for _, n := range sizes {
		checkSame(t, sized(n), sized(n), true)
	}
	checkSame(t, dead("x", plain, version), dead("x", plain, version), true)
	empty := sized(0)
	for _, l := range [][][32]byte{nil, {}, make([][32]byte, 0, 5)} {
		empty.Blocks = l
		checkSame(t, empty, sized(0), true)
	}
}

// TestSameOfVariants: of records that differ in one field alone.
func TestSameOfVariants(t *testing.T) {
	for _, r := range []record.Record{dead("d/x", plain, version), sized(0), sized(600)} {
		for _, c := range variants(r) {
			checkSame(t, c.r, r, equal(c.r, r))
		}
	}
	r := sized(0)
	r.Whole = [32]byte{}
	gone := r
	gone.Dead = true
	checkSame(t, r, gone, false)
}

// TestSameOfOtherDigests: each byte of each digest, and two digests exchanged.
func TestSameOfOtherDigests(t *testing.T) {
	r := sized(1000)
	for i := range r.Blocks {
		for k := range 32 {
			other := clone(r)
			other.Blocks[i][k] ^= 128 >> (k % 8)
			checkSame(t, r, other, false)
		}
	}
	other := clone(r)
	other.Blocks[0], other.Blocks[3] = other.Blocks[3], other.Blocks[0]
	checkSame(t, r, other, false)
}
