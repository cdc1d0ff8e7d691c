package ward_test

import (
	"bytes"
	"encoding/hex"
	"fmt"
	"math"
	"math/rand"
	"slices"
	"strings"
	"testing"

	"darner/api"
	"darner/ward"
)

// seen is all that an encoding has, as the functions of a ward tell it.
func seen(w *ward.Ward) string {
	if w == nil {
		return "none"
	}
	var out strings.Builder
	fmt.Fprint(&out, w.Len())
	for _, p := range w.Paths() {
		fmt.Fprintf(&out, " %q", p)
		for _, block := range w.Held(p) {
			reason, e := w.Why(p, block)
			fmt.Fprint(&out, " ", block, ":", reason, ":", e)
		}
	}
	return out.String()
}

// with returns a ward that holds the blocks of files.
func with(l ...files) *ward.Ward {
	w := ward.New()
	for _, f := range l {
		for _, x := range f.blocks {
			if e := w.Hold(f.path, x[0], x[1]); e != api.OK {
				panic(fmt.Sprintf("Hold(%q, %d, %d): error %d", f.path, x[0], x[1], e))
			}
		}
	}
	return w
}

// one are files that have a single block.
func one(p string, block, reason int) files {
	return files{p, [][2]int{{block, reason}}}
}

// blocksOf are those of a number of blocks from 0 on, for all reasons in turn.
func blocksOf(p string, n int) files {
	f := files{path: p}
	for i := range n {
		f.blocks = append(f.blocks, [2]int{i, 1 + i%3})
	}
	return f
}

// numbered are n files with so many blocks each, by increasing path.
func numbered(n, blocks int) []files {
	var l []files
	for i := range n {
		l = append(l, blocksOf(fmt.Sprintf("d/f%04d", i), blocks))
	}
	return l
}

// examples are files whose blocks a ward can hold, by increasing path.
func examples() [][]files {
	return [][]files{
		nil,
		{one("a", 0, 1)},
		{one("a", 63, 3)},
		{one(longest, 17, 2)},
		{blocksOf("a", 64)},
		{{"a", [][2]int{{0, 3}, {2, 1}, {63, 2}}}, one("a/b", 0, 1), {"b", [][2]int{{5, 1}, {6, 1}}}},
		{one("+", 1, 1), one("A", 1, 2), one("a", 2, 3), one("a-", 3, 1), one("a.b", 4, 2), one("a/b", 5, 3), one("a0", 6, 1), one(longest, 9, 2), one("~", 7, 3)},
		numbered(127, 1), numbered(128, 2),
	}
}

// greatest are as many blocks as a ward can hold.
func greatest() [][]files {
	return [][]files{numbered(1000, 1), append(numbered(15, 64), blocksOf("e", 40)), numbered(125, 8)}
}

// input is what is left of bytes, and the first error of what was read so far.
type input struct {
	rest []byte
	e    api.Errno
}

func (in *input) fail(e api.Errno) {
	if in.e == api.OK {
		in.e = e
	}
	in.rest = nil
}

// number reads a number; one that is greater than most is too many.
func (in *input) number(most uint64) int {
	n := uint64(0)
	for i, x := range in.rest {
		switch {
		case i == 9 || x == 0 && i > 0:
			in.fail(api.ErrForm)
			return 0
		case x >= 128:
			n += uint64(x-128) << (7 * i)
			continue
		}
		n += uint64(x) << (7 * i)
		if n > most {
			in.fail(api.ErrMany)
			return 0
		}
		in.rest = in.rest[i+1:]
		return int(n)
	}
	in.fail(api.ErrForm)
	return 0
}

func (in *input) bytes(n int) []byte {
	if n > len(in.rest) {
		in.fail(api.ErrForm)
		return make([]byte, n)
	}
	b := in.rest[:n]
	in.rest = in.rest[n:]
	return b
}

// parsedFiles are what an encoding has, or the error of its form or its digest.
func parsedFiles(b []byte) ([]files, api.Errno) {
	in := &input{rest: b}
	var l []files
	for range in.number(1000) {
		f := files{path: string(in.bytes(in.number(100)))}
		for range in.number(1000) {
			number := in.number(math.MaxInt)
			f.blocks = append(f.blocks, [2]int{number, in.number(math.MaxInt)})
		}
		l = append(l, f)
	}
	last := in.bytes(32)
	switch {
	case in.e != api.OK:
		return nil, in.e
	case len(in.rest) > 0:
		return nil, api.ErrForm
	case !bytes.Equal(sealed(b[:len(b)-32])[len(b)-32:], last):
		return nil, api.ErrDigest
	}
	return l, api.OK
}

// parsed is what seen is to be of what Parse returns, as the chapter defines it.
func parsed(b []byte) (string, api.Errno) {
	l, e := parsedFiles(b)
	if e != api.OK {
		return "none", e
	}
	for i, f := range l {
		if i > 0 && l[i-1].path >= f.path || len(f.blocks) == 0 {
			return "none", api.ErrForm
		}
		for k := 1; k < len(f.blocks); k++ {
			if f.blocks[k-1][0] >= f.blocks[k][0] {
				return "none", api.ErrForm
			}
		}
	}
	m := model{}
	for _, f := range l {
		for _, x := range f.blocks {
			if e := m.hold(f.path, x[0], x[1]); e != api.OK {
				return "none", e
			}
		}
	}
	return seen(with(l...)), api.OK
}

// checkParse checks what Parse returns.
func checkParse(t *testing.T, what string, b []byte, want string, wantError api.Errno) {
	t.Helper()
	w, e := ward.Parse(b)
	if seen(w) != want || e != wantError {
		t.Errorf("P15.1, P15.2: Parse of %.100x (%s): %.300s, error %d instead of %.300s, error %d", b, what, seen(w), e, want, wantError)
	}
	if e == api.OK && !bytes.Equal(w.Bytes(), b) {
		t.Errorf("P15.2: %.100x (%s) is parsed, but the encoding is %.100x", b, what, w.Bytes())
	}
}

// checkRefused checks that Parse returns an error.
func checkRefused(t *testing.T, what string, b []byte, want api.Errno) {
	t.Helper()
	checkParse(t, what, b, "none", want)
}

// checkFiles checks that Parse returns an error for the encoding of files that no
// ward can have. A wrong digest, or a byte behind it, is found first, but not before
// what is too many, which is found while the form is read.
func checkFiles(t *testing.T, what string, want api.Errno, l ...files) {
	t.Helper()
	otherDigest, behind := api.ErrDigest, api.ErrForm
	b := sealed(body(l...))
	if _, e := parsedFiles(b); e == api.ErrMany {
		otherDigest, behind = e, e
	}
	checkRefused(t, what, b, want)
	checkRefused(t, what+", with a byte behind", append(bytes.Clone(b), 0), behind)
	b[len(b)-1] ^= 1
	checkRefused(t, what+", with another digest", b, otherDigest)
}

// decoded returns bytes, given in hexadecimal.
func decoded(s string) []byte {
	b, err := hex.DecodeString(s)
	if err != nil {
		panic(err)
	}
	return b
}

func TestKnownEncodings(t *testing.T) {
	for want, w := range map[string]*ward.Ward{
		"00":                                            ward.New(),
		"01" + "0161" + "01" + "0001":                   with(one("a", 0, 1)),
		"01" + "03612f62" + "013f03":                    with(one("a/b", 63, 3)),
		"02" + "0141010902" + "016101" + "0a01":         with(one("a", 10, 1), one("A", 9, 2)),
		"01" + "0161" + "03" + "0003" + "0202" + "3f01": with(files{"a", [][2]int{{63, 1}, {0, 3}, {2, 2}}}),
	} {
		front := decoded(want)
		if got := w.Bytes(); !bytes.Equal(got, sealed(front)) {
			t.Errorf("P15.1: Bytes: %x instead of %x", got, sealed(front))
		}
		checkParse(t, "a known encoding", sealed(front), seen(w), api.OK)
	}
	// The digest of a byte 0.
	empty := decoded("006e340b9cffb37a989ca544e6bb780a2c78901d3fb33738768511a30617afa01d")
	if got := ward.New().Bytes(); !bytes.Equal(got, empty) {
		t.Errorf("P15.1: Bytes of a new ward: %x instead of %x", got, empty)
	}
}

// TestEncodingsOfExamples: whatever the order of the calls that led to them.
func TestEncodingsOfExamples(t *testing.T) {
	r := rand.New(rand.NewSource(2))
	for _, l := range append(examples(), greatest()...) {
		want := sealed(body(l...))
		checkParse(t, fmt.Sprint(len(l), " paths"), want, seen(with(l...)), api.OK)
		for range 5 {
			var holds []holding
			for _, f := range l {
				for _, x := range f.blocks {
					holds = append(holds, holding{f.path, x[0], x[1]})
				}
			}
			r.Shuffle(len(holds), func(i, k int) { holds[i], holds[k] = holds[k], holds[i] })
			w := ward.New()
			w.Hold("aside", 1, 1)
			w.Hold("gone", 2, 2)
			w.Free("gone", 2)
			w.Drop("aside")
			for i, h := range holds {
				w.Hold(h.path, h.block, 1+h.reason%3)
				if i%3 == 0 {
					w.Free(h.path, h.block)
				}
				w.Hold(h.path, h.block, h.reason)
			}
			if len(l) > 0 {
				w.Move(l[0].path, "aside")
				w.Move("aside", l[0].path)
			}
			if got := w.Bytes(); !bytes.Equal(got, want) {
				t.Errorf("P15.1: Bytes of %d paths: %.300x instead of %.300x", len(l), got, want)
			}
		}
	}
}

// TestParsedWards: they can be changed like others.
func TestParsedWards(t *testing.T) {
	for _, l := range examples() {
		w, e := ward.Parse(sealed(body(l...)))
		checkErrors(t, "Parse", e, api.OK)
		checkErrors(t, "Hold in a parsed ward", w.Hold("zz", 3, 1), api.OK)
		checkErrors(t, "Move in a parsed ward", w.Move("zz", "zzz"), api.OK)
		for _, f := range l {
			for _, x := range f.blocks {
				checkErrors(t, "Serve of a parsed block", w.Serve(f.path, x[0], x[0]+1), api.ErrHold)
				checkErrors(t, "Free of a parsed block", w.Free(f.path, x[0]), api.OK)
			}
		}
		if got := seen(w); got != `1 "zzz" 3:1:0` {
			t.Errorf("P15.2: a parsed ward, changed: %s", got)
		}
	}
}

// TestParseOfTruncatedEncodings: wherever they end, with and without a digest.
func TestParseOfTruncatedEncodings(t *testing.T) {
	for _, l := range append(examples(), greatest()[1]) {
		b := sealed(body(l...))
		for n := range b {
			checkRefused(t, "truncated", b[:n], api.ErrForm)
		}
		front := b[:len(b)-32]
		for n := 0; n < len(front); n += 1 + n/200 {
			want, e := parsed(sealed(front[:n]))
			if e == api.OK {
				t.Fatalf("%x is an encoding, too", front[:n])
			}
			checkParse(t, "truncated, with its digest", sealed(front[:n]), want, e)
		}
	}
}

// TestParseOfLongerEncodings: with bytes behind the last digest, or before it.
func TestParseOfLongerEncodings(t *testing.T) {
	for _, l := range append(examples(), greatest()...) {
		b := sealed(body(l...))
		for _, n := range []int{1, 2, 31, 32, 33, 64} {
			for _, x := range []byte{0, 1, 255} {
				behind := bytes.Repeat([]byte{x}, n)
				checkRefused(t, "with bytes behind", slices.Concat(b, behind), api.ErrForm)
				checkRefused(t, "with bytes before the digest", sealed(slices.Concat(b[:len(b)-32], behind)), api.ErrForm)
			}
		}
		checkRefused(t, "sealed twice", sealed(b), api.ErrForm)
		checkRefused(t, "twice", slices.Concat(b, b), api.ErrForm)
	}
}

// TestParseOfChangedEncodings: with any one byte changed they are refused, with
// the error that the form asks for; with the right digest behind it, what is parsed
// has that encoding.
func TestParseOfChangedEncodings(t *testing.T) {
	for _, l := range examples()[:8] {
		b := sealed(body(l...))
		for i := range b {
			for _, mask := range []byte{1, 2, 128, 255} {
				b[i] ^= mask
				_, e := parsed(b)
				if e == api.OK {
					t.Fatalf("%x is an encoding, too", b)
				}
				checkRefused(t, "a byte changed", b, e)
				b[i] ^= mask
			}
		}
	}
	for _, l := range append(examples()[:3], examples()[5]) {
		front := body(l...)
		for i, was := range front {
			for x := range 256 {
				front[i] = byte(x)
				want, e := parsed(sealed(front))
				checkParse(t, "a byte changed, with its digest", sealed(front), want, e)
			}
			front[i] = was
		}
	}
}

func TestParseOfOtherDigests(t *testing.T) {
	for _, l := range append(examples(), greatest()...) {
		b := sealed(body(l...))
		front, last := b[:len(b)-32], b[len(b)-32:]
		for i := range last {
			last[i] ^= 16
			checkRefused(t, "a wrong digest", b, api.ErrDigest)
			last[i] ^= 16
		}
		for _, d := range [][]byte{make([]byte, 32), bytes.Repeat([]byte{255}, 32), sealed(b)[len(b):], sealed(nil)} {
			checkRefused(t, "another digest", slices.Concat(front, d), api.ErrDigest)
		}
	}
}

// TestParseOfManyPaths: the number of paths alone is too much, whatever is behind.
func TestParseOfManyPaths(t *testing.T) {
	for _, n := range []int{1001, 1002, 1100} {
		l := numbered(n, 1)
		checkFiles(t, "many paths", api.ErrMany, l...)
		l[0].path = ".tmp~a"
		slices.Reverse(l)
		checkFiles(t, "many paths in no order", api.ErrMany, l...)
		checkRefused(t, "many paths, truncated", body(l...)[:50], api.ErrMany)
	}
	for what, b := range map[string]string{
		"1,001 paths that are not there":    "e907",
		"many paths that are not there":     "ffffffffffffffff7f",
		"1,001 paths before a long number":  "e907" + "8100",
		"1,001 blocks that are not there":   "01" + "0161" + "e907",
		"many blocks that are not there":    "01" + "0161" + "ffffffffffffffff7f",
		"a path of 101 bytes that is not":   "01" + "65",
		"a long path that is not there":     "01" + "ffffffffffffffff7f",
		"1,001 blocks before a long number": "01" + "0161" + "e907" + "8100",
	} {
		checkRefused(t, what, decoded(b), api.ErrMany)
		checkRefused(t, what, sealed(decoded(b)), api.ErrMany)
	}
	for what, b := range map[string]string{
		"1,000 paths that are not there":      "e807",
		"1,000 blocks that are not there":     "01" + "0161" + "e807",
		"a path of 100 bytes that is not":     "01" + "64",
		"a truncated path before many blocks": "01" + "05616161" + "e907",
		"a long number before many paths":     "8100" + "e907",
		"no number before many paths":         "8080808080808080808001" + "e907",
	} {
		checkRefused(t, what, decoded(b), api.ErrForm)
	}
}

// TestParseOfManyBlocks: of one path. Up to 1,000 have the right form, but there
// are not so many numbers that Hold permits.
func TestParseOfManyBlocks(t *testing.T) {
	for n, want := range map[int]api.Errno{65: api.ErrRange, 66: api.ErrRange, 127: api.ErrRange, 128: api.ErrRange, 1000: api.ErrRange, 1001: api.ErrMany, 2000: api.ErrMany} {
		many := blocksOf("b", n)
		for _, l := range [][]files{{many}, {one("a", 1, 1), many}, {many, one("c", 1, 1)}, {one("a", 0, 1), many, one("c/d", 63, 3)}} {
			checkFiles(t, fmt.Sprint(n, " blocks"), want, l...)
		}
		again := files{"b", slices.Repeat([][2]int{{5, 1}}, n)}
		if want == api.ErrMany {
			checkFiles(t, fmt.Sprint(n, " equal blocks"), api.ErrMany, again)
		} else {
			checkFiles(t, fmt.Sprint(n, " equal blocks"), api.ErrForm, again)
		}
	}
}

// TestParseOfManyInAll: the block that is one too many has that error, if no
// earlier one has another.
func TestParseOfManyInAll(t *testing.T) {
	for _, l := range greatest() {
		checkParse(t, "1,000 blocks", sealed(body(l...)), seen(with(l...)), api.OK)
		last := &l[len(l)-1]
		last.blocks = append(last.blocks, [2]int{50, 1})
		checkFiles(t, "1,001 blocks, the last one of the last path", api.ErrMany, l...)
	}
	for _, l := range greatest()[1:] {
		check := func(what string, want api.Errno, more ...files) {
			t.Helper()
			checkFiles(t, what+" after 1,000 blocks", want, slices.Concat(l, more)...)
		}
		check("a block", api.ErrMany, one("z", 0, 1))
		check("two blocks", api.ErrMany, blocksOf("z", 2))
		check("two paths", api.ErrMany, one("z", 0, 1), one("zz", 0, 1))
		check("a temp path", api.ErrPath, one("z/.tmp~a", 0, 1))
		check("block 64", api.ErrRange, one("z", 64, 1))
		check("reason 0", api.ErrRange, one("z", 0, 0))
		check("a block, and a temp path", api.ErrMany, one("z", 0, 1), one("z/.tmp~a", 0, 1))
		check("a block, and block 64", api.ErrMany, files{"z", [][2]int{{0, 1}, {64, 1}}})
		check("a path twice", api.ErrForm, one("z", 0, 1), one("z", 1, 1))
		check("a block twice", api.ErrForm, files{"z", [][2]int{{0, 1}, {0, 1}}})
		check("a path, and one without blocks", api.ErrForm, one("z", 0, 1), files{path: "zz"})
		checkFiles(t, "1,000 blocks after a sidecar's path", api.ErrPath, slices.Concat([]files{one(".par~a", 0, 1)}, l)...)
	}
}

// TestParseInNoOrder: paths or blocks that are equal or decreasing, and paths
// without blocks.
func TestParseInNoOrder(t *testing.T) {
	a, b, c := one("a", 1, 1), files{"a/b", [][2]int{{0, 1}, {63, 2}}}, one("b", 9, 3)
	for _, l := range [][]files{
		{a, a}, {b, b}, {a, one("a", 2, 1)}, {b, a}, {c, a}, {c, b}, {a, a, b}, {a, b, b}, {a, b, a}, {a, c, b}, {b, a, c}, {b, c, a}, {c, a, b},
		{c, b, a}, {a, b, c, c}, {a, b, c, a}, {one("b", 1, 1), one("B", 1, 1)}, {one("a/b", 1, 1), one("a-b", 1, 1)},
	} {
		checkFiles(t, "paths that do not increase", api.ErrForm, l...)
	}
	for _, blocks := range [][][2]int{
		{{0, 1}, {0, 1}}, {{0, 1}, {0, 2}}, {{1, 1}, {0, 1}}, {{63, 1}, {63, 1}}, {{63, 1}, {0, 1}}, {{0, 1}, {1, 1}, {1, 1}},
		{{0, 1}, {0, 1}, {1, 1}}, {{0, 1}, {2, 1}, {1, 1}}, {{5, 1}, {6, 1}, {5, 1}}, {},
	} {
		other := files{"ab", blocks}
		for _, l := range [][]files{{other}, {a, other}, {other, c}, {a, b, other, c}, {one("B", 0, 1), other}} {
			checkFiles(t, fmt.Sprint("blocks ", blocks), api.ErrForm, l...)
		}
	}
	for _, i := range []int{0, 1, 499, 998} {
		l := numbered(1000, 1)
		l[i], l[i+1] = l[i+1], l[i]
		checkFiles(t, "two of 1,000 paths exchanged", api.ErrForm, l...)
		l[i] = l[i+1]
		checkFiles(t, "one of 1,000 paths twice", api.ErrForm, l...)
		l = numbered(1000, 1)
		l[i+1].blocks = nil
		checkFiles(t, "one of 1,000 paths without blocks", api.ErrForm, l...)
	}
}

// TestParseOfOtherPaths: those that are none of kind 3, or too long.
func TestParseOfOtherPaths(t *testing.T) {
	for _, x := range otherPaths {
		want := api.ErrPath
		if len(x) > 100 {
			want = api.ErrMany
		}
		for _, other := range []files{one(x, 0, 1), blocksOf(x, 64), one(x, 64, 1), one(x, 5, 0), one(x, math.MaxInt, math.MaxInt)} {
			checkFiles(t, fmt.Sprintf("path %q", x), want, other)
			l := []files{one("a", 5, 1), other, one("b/c", 1, 3)}
			slices.SortFunc(l, func(f, g files) int { return strings.Compare(f.path, g.path) })
			checkFiles(t, fmt.Sprintf("path %q", x), want, l...)
			slices.Reverse(l)
			if want == api.ErrPath {
				checkFiles(t, fmt.Sprintf("path %q, in no order", x), api.ErrForm, l...)
			}
		}
		if want == api.ErrPath {
			checkFiles(t, fmt.Sprintf("path %q without blocks", x), api.ErrForm, files{path: x})
			checkFiles(t, fmt.Sprintf("path %q twice", x), api.ErrForm, one(x, 1, 1), one(x, 2, 1))
		}
	}
	for _, x := range filePaths {
		checkParse(t, fmt.Sprintf("path %q", x), sealed(body(one(x, 3, 2))), seen(with(one(x, 3, 2))), api.OK)
	}
}

// TestParseOutOfRange: of blocks and reasons that there are not, in the order of
// the blocks.
func TestParseOutOfRange(t *testing.T) {
	for _, x := range [][2]int{
		{64, 1}, {65, 1}, {127, 2}, {128, 3}, {1 << 32, 1}, {math.MaxInt, 1}, {0, 0}, {63, 0}, {0, 4}, {5, 5}, {63, 127}, {63, 128},
		{0, 1<<32 + 1}, {0, math.MaxInt}, {64, 0}, {math.MaxInt, math.MaxInt},
	} {
		what := fmt.Sprint("block and reason ", x)
		other := files{"b", [][2]int{x}}
		checkFiles(t, what, api.ErrRange, other)
		checkFiles(t, what, api.ErrRange, blocksOf("a", 64), other, one("c", 0, 1))
		checkFiles(t, what+", then a temp path", api.ErrRange, other, one("b/.tmp~a", 0, 1))
		checkFiles(t, what+", after a temp path", api.ErrPath, one(".tmp~a", 0, 1), other)
		checkFiles(t, what+", then no order", api.ErrForm, other, one("a", 0, 1))
		if x[0] < math.MaxInt {
			checkFiles(t, what+", then another block", api.ErrRange, files{"b", [][2]int{x, {math.MaxInt, 1}}})
		}
		if x[0] > 0 {
			checkFiles(t, what+", after another block", api.ErrRange, files{"b", [][2]int{{0, 1}, x}})
		}
	}
}

// TestParseOfOtherForms: numbers in more bytes than they need, or greater than an
// int, at every place where there is one.
func TestParseOfOtherForms(t *testing.T) {
	for what, b := range map[string]string{
		"a long number of paths":         "8100" + "0161" + "01" + "0501",
		"a long 0 of paths":              "8000",
		"a long length of a path":        "01" + "810061" + "01" + "0501",
		"a long number of blocks":        "01" + "0161" + "8100" + "0501",
		"a long number of a block":       "01" + "0161" + "01" + "850001",
		"a long reason":                  "01" + "0161" + "01" + "058100",
		"too great a number of paths":    "80808080808080808001" + "0161" + "01" + "0501",
		"too great a length of a path":   "01" + "80808080808080808001" + "61" + "01" + "0501",
		"too great a number of blocks":   "01" + "0161" + "80808080808080808001" + "0501",
		"too great a number of a block":  "01" + "0161" + "01" + "80808080808080808001" + "01",
		"too great a reason":             "01" + "0161" + "01" + "05" + "80808080808080808001",
		"a number of a block of no end":  "01" + "0161" + "01" + "ffffffffffffffffffffffff",
		"a block without its reason":     "01" + "0161" + "01" + "05",
		"one block less than there are":  "01" + "0161" + "01" + "0501" + "0601",
		"one block more than there are":  "01" + "0161" + "02" + "0501",
		"one path less than there are":   "01" + "0161" + "01" + "0501" + "0162" + "01" + "0501",
		"a path that is longer":          "01" + "0261" + "01" + "0501",
		"a path in an empty ward":        "00" + "0161" + "01" + "0501",
		"a path without blocks":          "01" + "0161" + "00",
		"an empty path without blocks":   "01" + "00" + "00",
		"a path without blocks, another": "02" + "0161" + "00" + "0162" + "01" + "0501",
	} {
		checkRefused(t, what, sealed(decoded(b)), api.ErrForm)
	}
	// Bytes of these digests are read as numbers that are too great.
	for what, b := range map[string]string{
		"a path without its blocks":    "01" + "0161",
		"one path more than there are": "02" + "0161" + "01" + "0501",
	} {
		checkRefused(t, what, sealed(decoded(b)), api.ErrMany)
		checkRefused(t, what+", without a digest", decoded(b), api.ErrForm)
	}
	for n := range 70 {
		want := api.ErrForm
		if n == 33 {
			want = api.ErrDigest
		}
		checkRefused(t, "zeros", make([]byte, n), want)
	}
}

// TestParseOfArbitraryBytes: encodings with bytes changed, removed or inserted,
// most with the right digest.
func TestParseOfArbitraryBytes(t *testing.T) {
	random := rand.New(rand.NewSource(4))
	counts := map[api.Errno]int{}
	for range 40000 {
		var l []files
		for _, x := range []string{".tmp~a", "a", "b", "b/c", longest}[random.Intn(3):] {
			f := files{path: x}
			at := 0
			for range random.Intn(4) + random.Intn(2) {
				at += random.Intn(20)
				f.blocks = append(f.blocks, [2]int{at, 1 + random.Intn(3)})
				at++
			}
			l = append(l, f)
		}
		b := body(l[:1+random.Intn(len(l))]...)
		for range random.Intn(3) {
			b = mutated(random, b)
		}
		b = sealed(b)
		if random.Intn(10) == 0 {
			b[random.Intn(len(b))] ^= byte(1 << random.Intn(8))
		}
		want, e := parsed(b)
		counts[e]++
		checkParse(t, "arbitrary", b, want, e)
	}
	for _, e := range []api.Errno{api.OK, api.ErrForm, api.ErrMany, api.ErrDigest, api.ErrRange, api.ErrPath} {
		if counts[e] < 50 {
			t.Errorf("only %d results with error %d", counts[e], e)
		}
	}
}

// mutated returns bytes with one of them changed, inserted or removed.
func mutated(random *rand.Rand, b []byte) []byte {
	if len(b) == 0 {
		return b
	}
	at := random.Intn(len(b))
	x := byte(random.Intn(256) >> random.Intn(8))
	switch random.Intn(4) {
	case 0:
		return slices.Insert(b, at, x)
	case 1:
		return slices.Delete(b, at, at+1)
	}
	b[at] = x
	return b
}
