package sha_test

import (
	"bytes"
	"crypto/sha256"
	"encoding/hex"
	"strings"
	"testing"

	"darner/api"
	"darner/sha"
)

// The lengths around which the padding needs another block, or a block ends.
var edges = []int{0, 1, 54, 55, 56, 57, 62, 63, 64, 65, 118, 119, 120, 121, 127, 128, 129, 183, 184, 191, 192}

// sample returns n bytes, of which neighbouring ones, and those of neighbouring blocks, differ.
func sample(n int) []byte {
	b := make([]byte, n)
	x := uint32(1)
	for i := range b {
		x = x*1664525 + 1013904223
		b[i] = byte(x >> 24)
	}
	return b
}

func checkDigest(t *testing.T, promise string, got [32]byte, all []byte) {
	t.Helper()
	if want := sha256.Sum256(all); got != want {
		t.Errorf("%s: %d bytes: %x instead of %x", promise, len(all), got, want)
	}
}

func TestSumOfKnownBytes(t *testing.T) {
	for _, c := range []struct{ text, want string }{
		{"", "e3b0c44298fc1c149afbf4c8996fb92427ae41e4649b934ca495991b7852b855"},
		{"a", "ca978112ca1bbdcafac231b39a23dc4da786eff8147c4e72b9807785afee48bb"},
		{"abc", "ba7816bf8f01cfea414140de5dae2223b00361a396177a9cb410ff61f20015ad"},
		{"abcdbcdecdefdefgefghfghighijhijkijkljklmklmnlmnomnopnopq",
			"248d6a61d20638b8e5c026930c3e6039a33ce45964ff2167f6ecedd419db06c1"},
		{"abcdefghbcdefghicdefghijdefghijkefghijklfghijklmghijklmnhijklmnoijklmnopjklmnopqklmnopqrlmnopqrsmnopqrstnopqrstu",
			"cf5b16a778af8380036ce59e7b0492370b249b11e8f07a51afac45037afee9d1"},
		{strings.Repeat("a", 55), "9f4390f8d30c2dd92ec9f095b65e2b9ae9b0a925a5258e241c9f1e910f734318"},
		{strings.Repeat("a", 56), "b35439a4ac6f0948b6d6f9e3c6af0f5f590ce20f1bde7090ef7970686ec6738a"},
		{strings.Repeat("a", 63), "7d3e74a05d7db15bce4ad9ec0658ea98e3f06eeecf16b4c6fff2da457ddc2f34"},
		{strings.Repeat("a", 64), "ffe054fe7ae0cb6dc65c3af9b61d5209f439851db43d0ba5997337df154668eb"},
		{strings.Repeat("a", 119), "31eba51c313a5c08226adf18d4a359cfdfd8d2e816b13f4af952f7ea6584dcfb"},
		{strings.Repeat("a", 120), "2f3d335432c70b580af0e8e1b3674a7c020d683aa5f73aaaedfdc55af904c21c"},
	} {
		if got := sha.Text(sha.Sum([]byte(c.text))); got != c.want {
			t.Errorf("P1.1: Sum(%q) is %s instead of %s", c.text, got, c.want)
		}
	}
}

func TestSumOfEveryLength(t *testing.T) {
	for n := range 600 {
		b := sample(n)
		checkDigest(t, "P1.1: Sum", sha.Sum(b), b)
		h := sha.New()
		h.Add(b)
		checkDigest(t, "P1.1: Hash.Sum", h.Sum(), b)
	}
}

func TestSumOfEveryByte(t *testing.T) {
	for x := range 256 {
		for _, n := range []int{1, 64, 65} {
			b := bytes.Repeat([]byte{byte(x)}, n)
			checkDigest(t, "P1.1: Sum", sha.Sum(b), b)
		}
	}
}

func TestNothing(t *testing.T) {
	none := sha256.Sum256(nil)
	for name, got := range map[string][32]byte{
		"no parts":        sha.Sum(),
		"a nil part":      sha.Sum(nil),
		"an empty part":   sha.Sum([]byte{}),
		"empty parts":     sha.Sum(nil, []byte{}, nil),
		"no list":         sha.Sum([][]byte(nil)...),
		"a list of none":  sha.Sum([][]byte{}...),
		"New":             sha.New().Sum(),
		"an unused slice": sha.Sum(sample(9)[:0]),
	} {
		if got != none {
			t.Errorf("P1.1: %s: %x", name, got)
		}
	}
	h := sha.New()
	h.Add()
	h.Add(nil, []byte{})
	if h.Len() != 0 || h.Sum() != none {
		t.Errorf("P1.1: empty parts added: %d bytes, %x", h.Len(), h.Sum())
	}
}

func TestLen(t *testing.T) {
	h := sha.New()
	if h.Len() != 0 {
		t.Errorf("P1.1: Len of a new hash: %d", h.Len())
	}
	want := 0
	for _, n := range edges {
		h.Add(sample(n), nil, sample(2*n))
		want += 3 * n
		if h.Len() != want {
			t.Errorf("P1.1: Len: %d instead of %d", h.Len(), want)
		}
		if h.Sum(); h.Len() != want {
			t.Errorf("P1.1: Len after Sum: %d instead of %d", h.Len(), want)
		}
	}
}

// TestSumInBetween: a sum that is requested does not change what comes later.
func TestSumInBetween(t *testing.T) {
	for _, first := range edges {
		for _, second := range edges {
			all := sample(first + second)
			h := sha.New()
			h.Add(all[:first])
			checkDigest(t, "P1.1: sum in between", h.Sum(), all[:first])
			checkDigest(t, "P1.1: sum in between, again", h.Sum(), all[:first])
			h.Add(all[first:])
			checkDigest(t, "P1.1: sum after it", h.Sum(), all)
		}
	}
	h, all := sha.New(), sample(300)
	for i := range all {
		checkDigest(t, "P1.1: sum at each byte", h.Sum(), all[:i])
		h.Add(all[i : i+1])
	}
	checkDigest(t, "P1.1: sum at each byte", h.Sum(), all)
}

func TestHashesAreIndependent(t *testing.T) {
	a, b := sha.New(), sha.New()
	x, y := sample(100), bytes.Repeat([]byte("y"), 70)
	a.Add(x[:30])
	b.Add(y)
	sha.Sum(y, x)
	a.Add(x[30:])
	checkDigest(t, "R8: first hash", a.Sum(), x)
	checkDigest(t, "R8: second hash", b.Sum(), y)
}

func TestText(t *testing.T) {
	if got, want := sha.Text([32]byte{}), strings.Repeat("0", 64); got != want {
		t.Errorf("P1.1: Text of zeros: %q", got)
	}
	var d [32]byte
	for first := 0; first < 256; first += len(d) {
		for i := range d {
			d[i] = byte(first + i)
		}
		if got, want := sha.Text(d), hex.EncodeToString(d[:]); got != want {
			t.Errorf("P1.1: Text: %q instead of %q", got, want)
		}
	}
}

func TestDivisionIntoParts(t *testing.T) {
	for _, n := range edges {
		all := sample(n)
		for i := range n + 1 {
			for j := i; j <= n; j += 7 {
				checkDigest(t, "P1.2: three parts", sha.Sum(all[:i], all[i:j], all[j:]), all)
			}
			h := sha.New()
			h.Add(all[:i])
			h.Add(all[i:])
			checkDigest(t, "P1.2: added twice", h.Sum(), all)
		}
	}
}

func TestPartsOfEqualLength(t *testing.T) {
	all := sample(1000)
	for n := 1; n <= 130; n++ {
		var parts [][]byte
		h := sha.New()
		for at := 0; at < len(all); at += n {
			part := all[at:min(at+n, len(all))]
			parts = append(parts, nil, part, []byte{})
			h.Add(nil, part)
			h.Add()
		}
		checkDigest(t, "P1.2: many parts", sha.Sum(parts...), all)
		checkDigest(t, "P1.2: many parts added", h.Sum(), all)
	}
}

func TestPartsThatOverlap(t *testing.T) {
	b := sample(90)
	checkDigest(t, "P1.2: overlapping parts", sha.Sum(b, b[10:50], b), bytes.Join([][]byte{b, b[10:50], b}, nil))
}

func TestArgumentsAreNotModified(t *testing.T) {
	for _, n := range edges {
		// Bytes beyond the length of a part, and parts beyond the length of the list, are spare capacity.
		whole := sample(n + 80)
		first, second := whole[:n], sample(70)
		list := [][]byte{first, second, whole, nil}
		d := sha.Sum(list[:2]...)
		h := sha.New()
		h.Add(list[:2]...)
		if h.Sum() != d {
			t.Errorf("P1.2: %d bytes: Sum and Add differ", n)
		}
		if !bytes.Equal(whole, sample(n+80)) || !bytes.Equal(second, sample(70)) {
			t.Errorf("P1.2: %d bytes: a part was modified", n)
		}
		if len(list[0]) != n || len(list[1]) != 70 || len(list[2]) != n+80 || list[3] != nil {
			t.Errorf("P1.2: %d bytes: the list of parts was modified", n)
		}
	}
}

func TestArgumentsAreNotRetained(t *testing.T) {
	for _, n := range edges {
		all := append(sample(n), sample(100)...)
		part, more := sample(n), sample(100)
		list := [][]byte{part, more}
		h := sha.New()
		h.Add(list...)
		clear(part)
		clear(more)
		clear(list)
		checkDigest(t, "P1.2: arguments changed after Add", h.Sum(), all)
		if h.Len() != len(all) {
			t.Errorf("P1.2: Len after arguments changed: %d instead of %d", h.Len(), len(all))
		}
	}
}

func TestResultsAreNotShared(t *testing.T) {
	h := sha.New()
	h.Add(sample(77))
	d := h.Sum()
	d[0]++
	checkDigest(t, "R6: a digest changed by its owner", h.Sum(), sample(77))
}

// TestManyBytes: the number of bits needs more than 32 bits.
func TestManyBytes(t *testing.T) {
	if testing.Short() {
		t.Skip("takes seconds")
	}
	t.Parallel()
	part := sample(1 << 20)
	h, want := sha.New(), sha256.New()
	for range 513 {
		h.Add(part)
		want.Write(part)
	}
	if got := h.Sum(); !bytes.Equal(got[:], want.Sum(nil)) {
		t.Errorf("P1.1: many bytes: %x", got)
	}
	if h.Len() != 513<<20 {
		t.Errorf("P1.1: many bytes: Len: %d", h.Len())
	}
}

// TestTablesAreNotModified: the tables are shared by all, and no result may depend on earlier calls.
func TestTablesAreNotModified(t *testing.T) {
	words, first := api.Words256, api.First256
	h := sha.New()
	h.Add(sample(500))
	h.Sum()
	sha.Sum(sample(64), sample(200))
	if api.Words256 != words || api.First256 != first {
		t.Error("R8: a table of api was modified")
	}
}
