package shard_test

import (
	"bytes"
	"math"
	"math/bits"
	"math/rand"
	"slices"
	"testing"

	"darner/api"
	"darner/field"
	"darner/shard"
)

// greatest are the numbers of data and of parity shards of codes at the edges
// and between.
var greatest = [][2]int{{1, 1}, {31, 1}, {1, 31}, {16, 16}, {30, 2}, {2, 30}, {4, 2}, {3, 2}, {2, 3}, {7, 5}}

// sizes are lengths of shards: none, short ones, that of a block, and longer ones.
var sizes = []int{0, 1, 2, 3, 63, 64, 65, 256, 1000}

func newCode(t *testing.T, k, m int) *shard.Code {
	t.Helper()
	c, e := shard.New(k, m)
	if c == nil || e != api.OK {
		t.Fatalf("P4.1: New(%d, %d): error %d", k, m, e)
	}
	return c
}

// arbitrary returns n shards of a size, which hold all kinds of bytes.
func arbitrary(r *rand.Rand, n, size int) [][]byte {
	l := make([][]byte, n)
	for i := range l {
		l[i] = make([]byte, size)
		r.Read(l[i])
	}
	return l
}

// parityOf is the parity of data as the chapters define it, number by number.
func parityOf(data [][]byte, m int) [][]byte {
	f, k := field.New(), len(data)
	parity := make([][]byte, m)
	for i := range parity {
		parity[i] = make([]byte, len(data[0]))
		for j, row := range data {
			factor, _ := f.Div(1, byte((k+i)^j))
			for at, x := range row {
				parity[i][at] ^= f.Mul(factor, x)
			}
		}
	}
	return parity
}

// allShards returns arbitrary data shards, with their parity.
func allShards(r *rand.Rand, k, m, size int) [][]byte {
	data := arbitrary(r, k, size)
	return append(data, parityOf(data, m)...)
}

func equal(a, b [][]byte) bool {
	return slices.EqualFunc(a, b, bytes.Equal)
}

func deepClone(l [][]byte) [][]byte {
	c := make([][]byte, len(l))
	for i, s := range l {
		c[i] = bytes.Clone(s)
	}
	return c
}

// bitsOf returns n truths, true where the number has a bit.
func bitsOf(number uint64, n int) []bool {
	l := make([]bool, n)
	for i := range l {
		l[i] = number>>i&1 == 1
	}
	return l
}

// someOf returns n truths, of which many arbitrary ones are true.
func someOf(r *rand.Rand, n, many int) []bool {
	l := make([]bool, n)
	for _, i := range r.Perm(n)[:many] {
		l[i] = true
	}
	return l
}

// only returns the shards that are there, and nil in place of the others.
func only(shards [][]byte, there []bool) [][]byte {
	l := make([][]byte, len(shards))
	for i, s := range shards {
		if there[i] {
			l[i] = s
		}
	}
	return l
}

func TestNew(t *testing.T) {
	for k := 1; k <= 31; k++ {
		for m := 1; m <= 32-k; m++ {
			c := newCode(t, k, m)
			if c.Data() != k || c.Parity() != m {
				t.Errorf("P4.1: New(%d, %d): %d data shards, %d parity shards", k, m, c.Data(), c.Parity())
			}
		}
	}
}

func TestNewOutOfRange(t *testing.T) {
	refused := func(k, m int) {
		t.Helper()
		if c, e := shard.New(k, m); c != nil || e != api.ErrRange {
			t.Errorf("P4.1: New(%d, %d): a code: %t, error %d", k, m, c != nil, e)
		}
	}
	outside := []int{0, -1, -2, -31, -32, math.MinInt32, math.MinInt + 1, math.MinInt,
		32, 33, 64, 256, 257, 1<<32 + 1, 1 << 62, 1<<62 + 16, math.MaxInt - 32, math.MaxInt - 1, math.MaxInt}
	for _, n := range outside {
		for _, m := range append([]int{1, 2, 16, 31}, outside...) {
			refused(n, m)
			refused(m, n)
		}
	}
	for k := 1; k <= 32; k++ {
		refused(k, 33-k)
		refused(k, 34-k)
	}
	// Their sums, which are no int, would be from 2 to 32 modulo 2^64.
	refused(math.MaxInt, math.MinInt+17)
	refused(math.MinInt, math.MinInt+16)
	refused(40, -8)
	refused(-8, 40)
}

func TestEncodeOfKnownShards(t *testing.T) {
	f := field.New()
	inverse := func(a byte) byte {
		q, _ := f.Div(1, a)
		return q
	}
	if inverse(2) != 142 {
		t.Fatalf("P2.1: 1 / 2 is %d", inverse(2))
	}
	for _, c := range []struct {
		m            int
		data, parity [][]byte
	}{
		{1, [][]byte{{7, 0, 255}}, [][]byte{{7, 0, 255}}},
		{2, [][]byte{{1, 2, 0}}, [][]byte{{1, 2, 0}, {142, 1, 0}}},
		{4, [][]byte{{1}}, [][]byte{{1}, {142}, {inverse(3)}, {inverse(4)}}},
		{1, [][]byte{{2, 0, 2}, {0, 3, 3}}, [][]byte{{1, 1, 0}}},
		{2, [][]byte{{1, 0}, {0, 1}}, [][]byte{{142, inverse(3)}, {inverse(3), 142}}},
		{2, [][]byte{{1, 0, 0}, {0, 1, 0}, {0, 0, 1}}, [][]byte{{inverse(3), 142, 1}, {inverse(4), inverse(5), inverse(6)}}},
	} {
		got, e := newCode(t, len(c.data), c.m).Encode(c.data)
		if e != api.OK || !equal(got, c.parity) {
			t.Errorf("P4.1: Encode(%v): %v, error %d, instead of %v", c.data, got, e, c.parity)
		}
	}
}

func TestEncodeByEachCode(t *testing.T) {
	r := rand.New(rand.NewSource(1))
	for k := 1; k <= 31; k++ {
		for m := 1; m <= 32-k; m++ {
			data := arbitrary(r, k, 40)
			if got, e := newCode(t, k, m).Encode(data); e != api.OK || !equal(got, parityOf(data, m)) {
				t.Errorf("P4.1: Encode by %d and %d: error %d, or another parity", k, m, e)
			}
		}
	}
}

func TestEncodeOfEachSize(t *testing.T) {
	r := rand.New(rand.NewSource(2))
	for _, g := range greatest {
		k, m := g[0], g[1]
		c := newCode(t, k, m)
		for _, size := range sizes {
			data := arbitrary(r, k, size)
			if got, e := c.Encode(data); e != api.OK || len(got) != m || !equal(got, parityOf(data, m)) {
				t.Errorf("P4.1: Encode by %d and %d of shards of %d: error %d, or another parity", k, m, size, e)
			}
		}
		if got, e := c.Encode(make([][]byte, k)); e != api.OK || !equal(got, make([][]byte, m)) {
			t.Errorf("P4.1, R5: Encode by %d and %d of nil shards: %v, error %d", k, m, got, e)
		}
		same := slices.Repeat([][]byte{{1, 2, 255}}, k)
		if got, e := c.Encode(same); e != api.OK || !equal(got, parityOf(same, m)) {
			t.Errorf("P4.1: Encode by %d and %d of one slice again and again: %v, error %d", k, m, got, e)
		}
	}
}

// counts are numbers of shards of which one is right, or none.
func counts(right int) []int {
	return []int{0, 1, 2, 3, right - 1, right, right + 1, 31, 32, 33, 64, 65, 2 * right, 300}
}

func TestEncodeOfOtherNumbersOfShards(t *testing.T) {
	r := rand.New(rand.NewSource(3))
	for _, g := range greatest {
		k, m := g[0], g[1]
		c := newCode(t, k, m)
		for _, n := range counts(k) {
			for _, size := range []int{0, 1, 5} {
				if n == k {
					continue
				}
				if got, e := c.Encode(arbitrary(r, n, size)); len(got) != 0 || e != api.ErrLength {
					t.Errorf("P4.1: Encode by %d and %d of %d shards: %v, error %d", k, m, n, got, e)
				}
			}
		}
		if got, e := c.Encode(nil); len(got) != 0 || e != api.ErrLength {
			t.Errorf("P4.1: Encode by %d and %d of nil: %v, error %d", k, m, got, e)
		}
		if got, e := c.Encode(arbitrary(r, k+2, 4)[:k-1]); len(got) != 0 || e != api.ErrLength {
			t.Errorf("P4.1: Encode by %d and %d of one shard less, with spare ones: %v, error %d", k, m, got, e)
		}
	}
}

func TestEncodeOfDifferentLengths(t *testing.T) {
	for _, g := range greatest {
		k, m := g[0], g[1]
		if k == 1 {
			continue
		}
		c := newCode(t, k, m)
		for i := range k {
			for _, size := range []int{0, 1, 3, 5, 100} {
				data := arbitrary(rand.New(rand.NewSource(4)), k, 4)
				data[i] = make([]byte, size, 200)
				if got, e := c.Encode(data); len(got) != 0 || e != api.ErrLength {
					t.Errorf("P4.1: Encode by %d and %d: shard %d of %d instead of 4 bytes: %v, error %d", k, m, i, size, got, e)
				}
			}
			data := make([][]byte, k)
			data[i] = []byte{0}
			if got, e := c.Encode(data); len(got) != 0 || e != api.ErrLength {
				t.Errorf("P4.1: Encode by %d and %d: only shard %d has a byte: %v, error %d", k, m, i, got, e)
			}
		}
	}
}

// checkDecode decodes what is there of all shards, with nothing and with other
// things in the other places.
func checkDecode(t *testing.T, c *shard.Code, all [][]byte, there []bool) {
	t.Helper()
	left := only(all, there)
	if got, e := c.Decode(left, there); e != api.OK || !equal(got, all) {
		t.Fatalf("P4.2: Decode by %d and %d of %v: %v, error %d, instead of %v", c.Data(), c.Parity(), there, got, e, all)
	}
	for i := range left {
		if !there[i] {
			left[i] = bytes.Repeat([]byte{byte(i + 1)}, i%3*len(all[0])+i%2)
		}
	}
	if got, e := c.Decode(left, there); e != api.OK || !equal(got, all) {
		t.Fatalf("P4.1: Decode by %d and %d of %v, with other things where none is: %v, error %d, instead of %v", c.Data(), c.Parity(), there, got, e, all)
	}
}

// checkFew decodes too few shards.
func checkFew(t *testing.T, c *shard.Code, all [][]byte, there []bool) {
	t.Helper()
	for _, left := range [][][]byte{only(all, there), all, make([][]byte, len(all))} {
		if got, e := c.Decode(left, there); len(got) != 0 || e != api.ErrFew {
			t.Fatalf("P4.1: Decode by %d and %d of %v: %v, error %d", c.Data(), c.Parity(), there, got, e)
		}
	}
}

// TestDecodeOfEachChoice: by each code of at most 9 shards, of each choice of them.
func TestDecodeOfEachChoice(t *testing.T) {
	r := rand.New(rand.NewSource(5))
	for k := 1; k <= 8; k++ {
		for m := 1; m <= 9-k; m++ {
			c, all := newCode(t, k, m), allShards(r, k, m, 5)
			for number := range uint64(1) << (k + m) {
				there := bitsOf(number, k+m)
				if bits.OnesCount64(number) < k {
					checkFew(t, c, all, there)
				} else {
					checkDecode(t, c, all, there)
				}
			}
		}
	}
}

// TestDecodeByGreatCodes: by each code of 32 shards, and by others, of as many
// as suffice, of more, and of one less, in arbitrary places.
func TestDecodeByGreatCodes(t *testing.T) {
	r := rand.New(rand.NewSource(6))
	codes := slices.Clone(greatest)
	for k := 1; k <= 31; k++ {
		codes = append(codes, [2]int{k, 32 - k})
	}
	for _, g := range codes {
		k, m := g[0], g[1]
		c, all := newCode(t, k, m), allShards(r, k, m, 7)
		for range 20 {
			checkDecode(t, c, all, someOf(r, k+m, k))
			checkDecode(t, c, all, someOf(r, k+m, k+r.Intn(m+1)))
			checkFew(t, c, all, someOf(r, k+m, k-1))
			checkFew(t, c, all, someOf(r, k+m, r.Intn(k)))
		}
	}
}

// TestDecodeOfRuns: of shards that lie one beside the other, so that only data,
// only parity, and some of both are missing.
func TestDecodeOfRuns(t *testing.T) {
	r := rand.New(rand.NewSource(7))
	for _, g := range greatest {
		k, m := g[0], g[1]
		c, all := newCode(t, k, m), allShards(r, k, m, 3)
		for from := range k + m {
			for to := from; to <= k+m; to++ {
				there := make([]bool, k+m)
				for i := from; i < to; i++ {
					there[i] = true
				}
				if to-from >= k {
					checkDecode(t, c, all, there)
				} else {
					checkFew(t, c, all, there)
				}
				for i := range there {
					there[i] = !there[i]
				}
				if k+m-to+from >= k {
					checkDecode(t, c, all, there)
				}
			}
		}
	}
}

// TestDecodeOfAllButThree: of each choice, by codes of 32 shards.
func TestDecodeOfAllButThree(t *testing.T) {
	r := rand.New(rand.NewSource(8))
	for _, k := range []int{29, 16, 1} {
		c, all := newCode(t, k, 32-k), allShards(r, k, 32-k, 2)
		for first := range 32 {
			for second := first; second < 32; second++ {
				for third := second; third < 32; third++ {
					checkDecode(t, c, all, bitsOf(math.MaxUint32&^(1<<first|1<<second|1<<third), 32))
				}
			}
		}
	}
}

func TestDecodeOfEachSize(t *testing.T) {
	r := rand.New(rand.NewSource(9))
	for _, g := range greatest {
		k, m := g[0], g[1]
		c := newCode(t, k, m)
		for _, size := range sizes {
			all := allShards(r, k, m, size)
			checkDecode(t, c, all, bitsOf(math.MaxUint64, k+m))
			checkDecode(t, c, all, someOf(r, k+m, k))
			checkDecode(t, c, all, bitsOf(math.MaxUint64<<m, k+m))
			checkDecode(t, c, all, bitsOf(1<<k-1, k+m))
			checkFew(t, c, all, bitsOf(1<<k-2, k+m))
		}
	}
}

// TestDecodeOfWhatEncodeReturns: and of what Cut returns.
func TestDecodeOfWhatEncodeReturns(t *testing.T) {
	r := rand.New(rand.NewSource(10))
	for _, g := range greatest {
		k, m := g[0], g[1]
		c, b := newCode(t, k, m), arbitrary(r, 1, 1000)[0]
		data, each := c.Cut(b)
		parity, e := c.Encode(data)
		if e != api.OK || len(parity) != m {
			t.Fatalf("P4.1: Encode by %d and %d of %d bytes each: error %d", k, m, each, e)
		}
		all := append(deepClone(data), parity...)
		for range 10 {
			checkDecode(t, c, all, someOf(r, k+m, k))
		}
		got, _ := c.Decode(all, someOf(r, k+m, k))
		if whole := bytes.Join(got[:k], nil); !bytes.Equal(whole[:len(b)], b) {
			t.Errorf("P4.2: Decode by %d and %d: other bytes than those that were cut", k, m)
		}
	}
}

// TestDecodeOfShardsThatDoNotFit: those that are there come back unchanged.
func TestDecodeOfShardsThatDoNotFit(t *testing.T) {
	r := rand.New(rand.NewSource(11))
	for _, g := range greatest {
		k, m := g[0], g[1]
		c := newCode(t, k, m)
		for many := k; many <= k+m; many++ {
			shards, there := arbitrary(r, k+m, 6), someOf(r, k+m, many)
			got, e := c.Decode(only(shards, there), there)
			if e != api.OK || len(got) != k+m {
				t.Fatalf("P4.1: Decode by %d and %d of %d arbitrary shards: %d, error %d", k, m, many, len(got), e)
			}
			for i, s := range got {
				if len(s) != 6 || there[i] && !bytes.Equal(s, shards[i]) {
					t.Errorf("P4.1: Decode by %d and %d of %d arbitrary shards: shard %d is %v instead of %v", k, m, many, i, s, shards[i])
				}
			}
			// As many as the data shards always fit.
			if e := c.Check(got); many == k && e != api.OK {
				t.Errorf("P4.1: Decode by %d and %d of %d arbitrary shards: what comes back does not fit", k, m, k)
			}
		}
		same := slices.Repeat([][]byte{{1, 2, 3}}, k+m)
		if got, e := c.Decode(same, bitsOf(math.MaxUint64, k+m)); e != api.OK || !equal(got, same) {
			t.Errorf("P4.1: Decode by %d and %d of one slice again and again: %v, error %d", k, m, got, e)
		}
	}
}

// TestDecodeOfOtherNumbers: of shards, or of elements of there, or of both; also
// where the lengths differ and where there are too few.
func TestDecodeOfOtherNumbers(t *testing.T) {
	r := rand.New(rand.NewSource(12))
	for _, g := range greatest {
		k, m := g[0], g[1]
		c := newCode(t, k, m)
		for _, n := range counts(k + m) {
			for _, truths := range counts(k + m) {
				if n == k+m && truths == k+m {
					continue
				}
				shards := arbitrary(r, n, 4)
				for _, there := range [][]bool{make([]bool, truths), slices.Repeat([]bool{true}, truths)} {
					if got, e := c.Decode(shards, there); len(got) != 0 || e != api.ErrLength {
						t.Errorf("P4.1: Decode by %d and %d of %d shards with %d truths: %v, error %d", k, m, n, truths, got, e)
					}
				}
			}
		}
		spare, truths := arbitrary(r, k+m+1, 4), slices.Repeat([]bool{true}, k+m+1)
		for what, call := range map[string]func() ([][]byte, api.Errno){
			"nil":                                   func() ([][]byte, api.Errno) { return c.Decode(nil, nil) },
			"nil shards":                            func() ([][]byte, api.Errno) { return c.Decode(nil, truths[:k+m]) },
			"nil truths":                            func() ([][]byte, api.Errno) { return c.Decode(spare[:k+m], nil) },
			"one shard less, with spare ones":       func() ([][]byte, api.Errno) { return c.Decode(spare[:k+m-1], truths[:k+m]) },
			"one truth less, with spare ones":       func() ([][]byte, api.Errno) { return c.Decode(spare[:k+m], truths[:k+m-1]) },
			"a shard and a truth less":              func() ([][]byte, api.Errno) { return c.Decode(spare[:k+m-1], truths[:k+m-1]) },
			"a shard and a truth more":              func() ([][]byte, api.Errno) { return c.Decode(spare, truths) },
			"only the data":                         func() ([][]byte, api.Errno) { return c.Decode(spare[:k], truths[:k]) },
			"one truth more, and different lengths": func() ([][]byte, api.Errno) { return c.Decode(append(spare[:k+m-1:k+m-1], nil), truths) },
		} {
			if got, e := call(); len(got) != 0 || e != api.ErrLength {
				t.Errorf("P4.1: Decode by %d and %d of %s: %v, error %d", k, m, what, got, e)
			}
		}
	}
}

// TestDecodeOfDifferentLengths: at each place, also where there are too few.
func TestDecodeOfDifferentLengths(t *testing.T) {
	r := rand.New(rand.NewSource(13))
	for _, g := range greatest {
		k, m := g[0], g[1]
		c := newCode(t, k, m)
		for i := range k + m {
			for _, size := range []int{0, 3, 5, 8} {
				shards := arbitrary(r, k+m, 4)
				shards[i] = make([]byte, size, 300)
				// At least one other is there.
				for _, many := range []int{2, max(2, k), k + 1, k + m} {
					there := someOf(r, k+m, many)
					there[i] = true
					if got, e := c.Decode(shards, there); len(got) != 0 || e != api.ErrLength {
						t.Errorf("P4.1: Decode by %d and %d of %v: shard %d of %d instead of 4 bytes: %v, error %d", k, m, there, i, size, got, e)
					}
				}
			}
		}
	}
	// Too few are there, and their lengths differ: the lengths are examined first.
	c := newCode(t, 4, 2)
	shards := [][]byte{{1}, {2, 3}, nil, nil, nil, nil}
	if got, e := c.Decode(shards, []bool{true, true, false, false, false, false}); len(got) != 0 || e != api.ErrLength {
		t.Errorf("P4.1: Decode of two shards of different lengths: %v, error %d", got, e)
	}
	if got, e := c.Decode(shards, []bool{true, false, true, false, false, false}); len(got) != 0 || e != api.ErrLength {
		t.Errorf("P4.1: Decode of a shard and an empty one: %v, error %d", got, e)
	}
	if got, e := c.Decode(shards, []bool{true, false, false, false, false, false}); len(got) != 0 || e != api.ErrFew {
		t.Errorf("P4.1: Decode of one shard: %v, error %d", got, e)
	}
	if got, e := c.Decode(shards, make([]bool, 6)); len(got) != 0 || e != api.ErrFew {
		t.Errorf("P4.1: Decode of no shard: %v, error %d", got, e)
	}
}

func TestCheck(t *testing.T) {
	r := rand.New(rand.NewSource(14))
	for _, g := range greatest {
		k, m := g[0], g[1]
		c := newCode(t, k, m)
		for _, size := range sizes {
			if e := c.Check(allShards(r, k, m, size)); e != api.OK {
				t.Errorf("P4.1: Check by %d and %d of shards of %d: error %d", k, m, size, e)
			}
		}
		if e := c.Check(make([][]byte, k+m)); e != api.OK {
			t.Errorf("P4.1, R5: Check by %d and %d of nil shards: error %d", k, m, e)
		}
	}
}

// TestCheckOfChangedBytes: at each place of each shard.
func TestCheckOfChangedBytes(t *testing.T) {
	r := rand.New(rand.NewSource(15))
	for _, g := range greatest {
		k, m := g[0], g[1]
		c, all := newCode(t, k, m), allShards(r, k, m, 5)
		for i := range all {
			for at := range 5 {
				for _, change := range []byte{1, 128, 255, byte(1 + r.Intn(255))} {
					all[i][at] ^= change
					if e := c.Check(all); e != api.ErrDigest {
						t.Errorf("P4.1: Check by %d and %d: byte %d of shard %d is changed: error %d", k, m, at, i, e)
					}
					all[i][at] ^= change
				}
			}
		}
		if e := c.Check(all); e != api.OK {
			t.Errorf("P4.1: Check by %d and %d, bytes changed back: error %d", k, m, e)
		}
		if m > 1 {
			all[k], all[k+m-1] = all[k+m-1], all[k]
			if e := c.Check(all); e != api.ErrDigest {
				t.Errorf("P4.1: Check by %d and %d of exchanged parity: error %d", k, m, e)
			}
		}
	}
}

func TestCheckOfWhatDoesNotFit(t *testing.T) {
	r := rand.New(rand.NewSource(16))
	for _, g := range greatest {
		k, m := g[0], g[1]
		c, all := newCode(t, k, m), allShards(r, k, m, 4)
		for _, n := range counts(k + m) {
			for _, size := range []int{0, 4} {
				if n == k+m {
					continue
				}
				if e := c.Check(arbitrary(r, n, size)); e != api.ErrLength {
					t.Errorf("P4.1: Check by %d and %d of %d shards: error %d", k, m, n, e)
				}
			}
		}
		for _, l := range [][][]byte{nil, all[:k], all[k:], all[:k+m-1], append(all[:k+m:k+m], nil)} {
			if len(l) == k+m {
				continue
			}
			if e := c.Check(l); e != api.ErrLength {
				t.Errorf("P4.1: Check by %d and %d of %d of all shards: error %d", k, m, len(l), e)
			}
		}
		for i := range all {
			for _, size := range []int{0, 1, 3, 5} {
				other := deepClone(all)
				other[i] = make([]byte, size, 300)
				if e := c.Check(other); e != api.ErrLength {
					t.Errorf("P4.1: Check by %d and %d: shard %d of %d instead of 4 bytes: error %d", k, m, i, size, e)
				}
				// The lengths are examined before the parity is.
				other[(i+1)%(k+m)][0] ^= 1
				if e := c.Check(other); e != api.ErrLength {
					t.Errorf("P4.1: Check by %d and %d: shard %d of %d instead of 4 bytes, another one changed: error %d", k, m, i, size, e)
				}
			}
		}
	}
}

func TestCutOfKnownBytes(t *testing.T) {
	for _, c := range []struct {
		text string
		k    int
		each int
		want []string
	}{
		{"abcdef", 3, 2, []string{"ab", "cd", "ef"}},
		{"abcdefg", 3, 3, []string{"abc", "def", "g\x00\x00"}},
		{"abcde", 3, 2, []string{"ab", "cd", "e\x00"}},
		{"abc", 3, 1, []string{"a", "b", "c"}},
		{"ab", 3, 1, []string{"a", "b", "\x00"}},
		{"a", 3, 1, []string{"a", "\x00", "\x00"}},
		{"", 3, 0, []string{"", "", ""}},
		{"abcde", 4, 2, []string{"ab", "cd", "e\x00", "\x00\x00"}},
		{"abcdef", 5, 2, []string{"ab", "cd", "ef", "\x00\x00", "\x00\x00"}},
		{"abc", 1, 3, []string{"abc"}},
		{"", 1, 0, []string{""}},
	} {
		got, each := newCode(t, c.k, 1).Cut([]byte(c.text))
		same := slices.EqualFunc(got, c.want, func(b []byte, s string) bool { return string(b) == s })
		if !same || each != c.each {
			t.Errorf("P4.1: Cut(%q) by %d: %q, %d", c.text, c.k, got, each)
		}
	}
}

func TestCutOfEachLength(t *testing.T) {
	r := rand.New(rand.NewSource(17))
	for k := 1; k <= 31; k++ {
		c := newCode(t, k, 1+r.Intn(32-k))
		for _, n := range append([]int{256, 1023, 1024, 1025, 16384}, r.Perm(140)...) {
			b := arbitrary(r, 1, n)[0]
			got, each := c.Cut(b)
			if len(got) != k || k*each < n || k*(each-1) >= n && n > 0 || n == 0 && each != 0 {
				t.Fatalf("P4.1: Cut of %d bytes by %d: %d shards of %d", n, k, len(got), each)
			}
			if slices.ContainsFunc(got, func(s []byte) bool { return len(s) != each }) {
				t.Fatalf("P4.1: Cut of %d bytes by %d: a shard is not of %d bytes", n, k, each)
			}
			if whole := bytes.Join(got, nil); !bytes.Equal(whole, append(bytes.Clone(b), make([]byte, k*each-n)...)) {
				t.Errorf("P4.1: Cut of %d bytes by %d: other bytes", n, k)
			}
		}
		for _, b := range [][]byte{nil, {}, make([]byte, 0, 9), []byte("abc")[:0]} {
			if got, each := c.Cut(b); each != 0 || !equal(got, make([][]byte, k)) {
				t.Errorf("P4.1, R5: Cut of nothing by %d: %v, %d", k, got, each)
			}
		}
		// The padding is not what lies behind the bytes.
		if got, _ := c.Cut(bytes.Repeat([]byte{9}, 100)[:k+1]); got[k-1][1] != 0 && k > 1 {
			t.Errorf("P4.1: Cut of %d bytes with spare ones by %d: %v", k+1, k, got)
		}
	}
}

// A call is one on a code of 4 and 3; it returns what the code's method returns.
type call struct {
	what string
	do   func(c *shard.Code, shards [][]byte, there []bool) [][]byte
}

// calls are those on all shards or on some of them, that succeed and that fail.
func calls() []call {
	return []call{
		{"Encode", func(c *shard.Code, s [][]byte, there []bool) [][]byte { l, _ := c.Encode(s[:4]); return l }},
		{"Encode of too few", func(c *shard.Code, s [][]byte, there []bool) [][]byte { l, _ := c.Encode(s[:3]); return l }},
		{"Encode of too many", func(c *shard.Code, s [][]byte, there []bool) [][]byte { l, _ := c.Encode(s); return l }},
		{"Encode of other lengths", func(c *shard.Code, s [][]byte, there []bool) [][]byte {
			l, _ := c.Encode([][]byte{s[0], s[1], nil, s[3]})
			return l
		}},
		{"Decode", func(c *shard.Code, s [][]byte, there []bool) [][]byte { l, _ := c.Decode(s, there); return l }},
		{"Decode of too few", func(c *shard.Code, s [][]byte, there []bool) [][]byte { l, _ := c.Decode(s[:5], there); return l }},
		{"Decode of other numbers", func(c *shard.Code, s [][]byte, there []bool) [][]byte { l, _ := c.Decode(s, there[:6]); return l }},
		{"Check", func(c *shard.Code, s [][]byte, there []bool) [][]byte { c.Check(s); return nil }},
		{"Check of too few", func(c *shard.Code, s [][]byte, there []bool) [][]byte { c.Check(s[:5]); return nil }},
		{"Cut", func(c *shard.Code, s [][]byte, there []bool) [][]byte { l, _ := c.Cut(s[0]); return l }},
		{"Cut of a part", func(c *shard.Code, s [][]byte, there []bool) [][]byte { l, _ := c.Cut(s[1][:len(s[1])/2]); return l }},
		{"Cut of all", func(c *shard.Code, s [][]byte, there []bool) [][]byte { l, _ := c.Cut(s[0][:cap(s[0])]); return l }},
	}
}

// choices are of the 7 shards of that code: all, as many as suffice, fewer, and none.
func choices() [][]bool {
	var l [][]bool
	for _, number := range []uint64{0b1111111, 0b0001111, 0b1111000, 0b1110001, 0b0111110, 0b1010101, 0b0011111, 0b1111110, 0b0000111, 0} {
		l = append(l, bitsOf(number, 7))
	}
	return l
}

// arguments are shards that lie one behind the other in one array, each with all
// later ones as its spare capacity, and truths, both with spare elements.
type arguments struct {
	shards [][]byte
	there  []bool
	bytes  []byte
}

func newArguments(shards [][]byte, there []bool) arguments {
	a := arguments{bytes: bytes.Join(append(deepClone(shards), []byte("behind all shards")), nil)}
	at := 0
	for _, s := range shards {
		a.shards = append(a.shards, a.bytes[at:at+len(s)])
		at += len(s)
	}
	a.shards = append(a.shards, a.bytes[at:])[:len(shards)]
	a.there = append(slices.Clone(there), true, false, true)[:len(there)]
	return a
}

// same reports whether both have the same contents, and lists of the same form.
func (a arguments) same(b arguments) bool {
	return bytes.Equal(a.bytes, b.bytes) &&
		equal(a.shards[:len(a.shards)+1], b.shards[:len(b.shards)+1]) &&
		slices.Equal(a.there[:len(a.there)+3], b.there[:len(b.there)+3])
}

// scribble changes shards, and the list, with their spare capacity.
func scribble(l [][]byte) {
	l = l[:cap(l)]
	for i, s := range l {
		for at := range s[:cap(s)] {
			// Not an exclusive or: shards that overlap would change it back.
			s[:cap(s)][at] += 99
		}
		l[i] = []byte("scribbled")
	}
}

// TestArgumentsAreNotModified: nor their spare capacity, nor by one who changes
// a result.
func TestArgumentsAreNotModified(t *testing.T) {
	r, c := rand.New(rand.NewSource(18)), newCode(t, 4, 3)
	for _, size := range []int{0, 1, 8, 256} {
		for _, shards := range [][][]byte{allShards(r, 4, 3, size), arbitrary(r, 7, size)} {
			for _, there := range choices() {
				for _, call := range calls() {
					a, was := newArguments(shards, there), newArguments(shards, there)
					result := call.do(c, a.shards, a.there)
					if !a.same(was) {
						t.Fatalf("P4.1, R6: %s of %v, shards of %d: an argument is modified", call.what, there, size)
					}
					scribble(result)
					if !a.same(was) {
						t.Fatalf("P4.1, R6: %s of %v, shards of %d: the result shares memory with an argument", call.what, there, size)
					}
				}
			}
		}
	}
}

// TestResultsAreNewMemory: no shard of a result shares memory with another one,
// with another result or with an argument.
func TestResultsAreNewMemory(t *testing.T) {
	r, c := rand.New(rand.NewSource(19)), newCode(t, 4, 3)
	for _, size := range []int{0, 1, 8, 256} {
		shards := allShards(r, 4, 3, size)
		for _, there := range choices() {
			for _, call := range calls() {
				a, b := newArguments(shards, there), newArguments(shards, there)
				result := call.do(c, a.shards, a.there)
				want := deepClone(result)
				again := call.do(c, b.shards, b.there)
				if !equal(again, want) {
					t.Fatalf("R8: %s of %v, shards of %d: another result the second time", call.what, there, size)
				}
				scribble(again)
				scribble(a.shards)
				if !equal(result, want) {
					t.Fatalf("P4.1, R6: %s of %v, shards of %d: the result shares memory", call.what, there, size)
				}
				for i, s := range result {
					scribble([][]byte{s})
					if !equal(result[:i], want[:i]) || !equal(result[i+1:], want[i+1:]) {
						t.Fatalf("P4.1, R6: %s of %v, shards of %d: shard %d shares memory with another one", call.what, there, size, i)
					}
					copy(s, want[i])
				}
			}
		}
	}
}

// TestDecodeOfSharedShards: arguments that are one slice come back as slices of
// their own.
func TestDecodeOfSharedShards(t *testing.T) {
	one := []byte{1, 2, 3}
	got, e := newCode(t, 1, 2).Decode([][]byte{one, one, one}, []bool{true, true, true})
	if e != api.OK || len(got) != 3 {
		t.Fatalf("P4.1: Decode: %v, error %d", got, e)
	}
	clear(got[1][:cap(got[1])])
	if !equal(got, [][]byte{{1, 2, 3}, {0, 0, 0}, {1, 2, 3}}) || !bytes.Equal(one, []byte{1, 2, 3}) {
		t.Errorf("P4.1, R6: Decode of one slice three times: shards share memory: %v", got)
	}
}

// TestCallsChangeNothing: a code answers as before, whatever it and others have
// been asked, and whatever has failed.
func TestCallsChangeNothing(t *testing.T) {
	r := rand.New(rand.NewSource(20))
	used := newCode(t, 4, 3)
	for _, size := range []int{0, 1, 8} {
		shards := arbitrary(r, 7, size)
		for _, there := range choices() {
			for _, call := range calls() {
				a, b := newArguments(shards, there), newArguments(shards, there)
				scribble(call.do(newCode(t, 5, 2), a.shards, a.there))
				want := call.do(newCode(t, 4, 3), b.shards, b.there)
				if got := call.do(used, b.shards, b.there); !equal(got, want) {
					t.Fatalf("R4, R8: %s of %v, shards of %d: a used code returns %v, a new one %v", call.what, there, size, got, want)
				}
			}
		}
	}
	if used.Data() != 4 || used.Parity() != 3 {
		t.Errorf("P4.1: a used code of 4 and 3: %d, %d", used.Data(), used.Parity())
	}
}
