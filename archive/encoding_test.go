package archive_test

import (
	"bytes"
	"crypto/sha256"
	"encoding/binary"
	"encoding/hex"
	"fmt"
	"math"
	"math/rand"
	"slices"
	"testing"

	"darner/api"
	"darner/archive"
	"darner/record"
)

// sealed returns bytes with their digest behind them.
func sealed(b []byte) []byte {
	d := sha256.Sum256(b)
	return append(bytes.Clone(b), d[:]...)
}

// body is what the last digest of an encoding is the digest of. What stands for
// the records need not be their encodings.
func body(generation int, l ...[]byte) []byte {
	b := binary.AppendUvarint(nil, uint64(generation))
	b = binary.AppendUvarint(b, uint64(len(l)))
	for _, r := range l {
		b = append(binary.AppendUvarint(b, uint64(len(r))), r...)
	}
	return b
}

// encoded are the encodings of records.
func encoded(l ...record.Record) [][]byte {
	var all [][]byte
	for _, r := range l {
		all = append(all, r.Bytes())
	}
	return all
}

// encoding is that of an archive of records, in increasing order, as the chapter
// defines it.
func encoding(generation int, l ...record.Record) []byte {
	return sealed(body(generation, encoded(l...)...))
}

// input is what is left of bytes, and the first error of what was read so far.
type input struct {
	rest []byte
	e    api.Errno
}

func (in *input) fail(e api.Errno) {
	if in.e == api.OK {
		in.e = e
	}
	in.rest = nil
}

// number reads a number; one that is greater than most is too many.
func (in *input) number(most uint64) int {
	n, size := binary.Uvarint(in.rest)
	if size <= 0 || n > math.MaxInt || len(binary.AppendUvarint(nil, n)) != size {
		in.fail(api.ErrForm)
		return 0
	}
	if n > most {
		in.fail(api.ErrMany)
		return 0
	}
	in.rest = in.rest[size:]
	return int(n)
}

func (in *input) bytes(n int) []byte {
	if n > len(in.rest) {
		in.fail(api.ErrForm)
		return make([]byte, n)
	}
	b := in.rest[:n]
	in.rest = in.rest[n:]
	return b
}

// parsed is what seen is to be of what Parse returns, as the chapter defines it.
func parsed(b []byte) (string, api.Errno) {
	in := &input{rest: b}
	generation := in.number(math.MaxInt)
	var list [][]byte
	for range in.number(mostRecords) {
		list = append(list, in.bytes(in.number(4096)))
	}
	last := [32]byte(in.bytes(32))
	switch {
	case in.e != api.OK:
		return "none", in.e
	case len(in.rest) > 0:
		return "none", api.ErrForm
	case sha256.Sum256(b[:len(b)-32]) != last:
		return "none", api.ErrDigest
	}
	var l []record.Record
	for _, one := range list {
		r, e := record.Parse(one)
		if e != api.OK {
			return "none", e
		}
		l = append(l, r)
	}
	for i := range l {
		if i > 0 && l[i-1].Path >= l[i].Path {
			return "none", api.ErrForm
		}
	}
	return state(generation, l...), api.OK
}

// checkParse checks what Parse returns.
func checkParse(t *testing.T, what string, b []byte, want string, wantError api.Errno) {
	t.Helper()
	a, e := archive.Parse(b)
	if seen(a) != want || e != wantError {
		t.Errorf("P11.1, P11.2: Parse of %.100x (%s): %.300s, error %d instead of %.300s, error %d", b, what, seen(a), e, want, wantError)
	}
	if e == api.OK && !bytes.Equal(a.Bytes(), b) {
		t.Errorf("P11.2: %.100x (%s) is parsed, but the encoding is %.100x", b, what, a.Bytes())
	}
}

// checkRefused checks that Parse returns an error.
func checkRefused(t *testing.T, what string, b []byte, want api.Errno) {
	t.Helper()
	checkParse(t, what, b, "none", want)
}

// examples are lists of records, in increasing order, of which archives are made.
func examples() [][]record.Record {
	most := []record.Record{}
	for i := range mostRecords {
		most = append(most, dead(fmt.Sprintf("f%03d", i)))
	}
	return [][]record.Record{
		nil, {dead("a")}, {live("a", 0)}, {live(longest, 300)}, {dead("a"), dead("b")},
		{dead("a"), live("a/b", 600), live("b", 1)}, several(), most,
	}
}

// firstErrors are bytes that are the encodings of no records, with the error that
// Parse of chapter 10 has for each.
func firstErrors() map[string]api.Errno {
	out := map[string]api.Errno{
		"":                                                api.ErrForm,
		string(live("c", 300).Bytes()[:500/4]):            api.ErrForm,
		string(append(dead("c").Bytes(), 0)):              api.ErrForm,
		string(bytes.Repeat([]byte{255}, 4096)):           api.ErrForm,
		"\x65" + string(dead("c").Bytes()):                api.ErrMany,
		string(append([]byte{101}, make([]byte, 200)...)): api.ErrMany,
	}
	wrong := dead("c").Bytes()
	wrong[len(wrong)-1] ^= 1
	out[string(wrong)] = api.ErrDigest
	renamed := live("c", 300).Bytes()
	renamed[1] = 'd'
	out[string(renamed)] = api.ErrDigest
	for _, b := range []string{
		"\x01c\x00\x01\x02\x00\x01",                      // A version of zeros.
		"\x06.tmp~c\x00\x01\x02\x01\x00\x03\x01",         // A temp path.
		"\x0e.par~archive.0\x00\x01\x02\x01\x00\x03\x01", // The path of a copy.
		"\x01c\x01\x01\x02\x01\x00\x03\x01",              // A Size of a deleted file.
	} {
		out[string(sealed([]byte(b)))] = api.ErrRange
	}
	for b, e := range out {
		if _, got := record.Parse([]byte(b)); got != e {
			panic(fmt.Sprintf("record.Parse of %x: error %d instead of %d", b, got, e))
		}
	}
	return out
}

func TestKnownEncodings(t *testing.T) {
	empty := "0000" + hex.EncodeToString(sealed([]byte{0, 0})[2:])
	if got := hex.EncodeToString(archive.New().Bytes()); got != empty {
		t.Errorf("P11.1: Bytes of a new archive: %s instead of %s", got, empty)
	}
	r := dead("a")
	want := sealed(append([]byte{0, 1, byte(len(r.Bytes()))}, r.Bytes()...))
	if got := with(r).Bytes(); !bytes.Equal(got, want) {
		t.Errorf("P11.1: Bytes of an archive of one record: %x instead of %x", got, want)
	}
	checkParse(t, "of no records", sealed([]byte{0, 0}), "0 0", api.OK)
	checkParse(t, "of no records", sealed([]byte{0xac, 2, 0}), "300 0", api.OK)
}

func TestEncodingsOfExamples(t *testing.T) {
	random := rand.New(rand.NewSource(3))
	for _, l := range append(examples(), numbered(mostRecords)) {
		shuffled := slices.Clone(l)
		random.Shuffle(len(l), func(i, k int) { shuffled[i], shuffled[k] = shuffled[k], shuffled[i] })
		if got := with(shuffled...).Bytes(); !bytes.Equal(got, encoding(0, l...)) {
			t.Errorf("P11.1: Bytes of %d records: %.300x instead of %.300x", len(l), got, encoding(0, l...))
		}
		for _, generation := range []int{0, 1, 127, 128, 300, maxCount - 1, maxCount} {
			checkParse(t, fmt.Sprint(len(l), " records"), encoding(generation, l...), state(generation, l...), api.OK)
		}
	}
}

// TestParsedArchives: they can be changed like others.
func TestParsedArchives(t *testing.T) {
	for _, l := range examples() {
		a, e := archive.Parse(encoding(9, l...))
		checkError(t, "Parse", e, api.OK)
		want := api.OK
		if len(l) == mostRecords {
			want = api.ErrMany
		}
		checkError(t, "Set for a parsed archive", a.Set(live("zz", 3)), want)
		for _, r := range l {
			checkError(t, "Drop of a parsed record", a.Drop(r.Path), api.OK)
		}
		checkError(t, "Set for a parsed archive", a.Set(live("zz", 4)), api.OK)
		checkSeen(t, "a parsed archive, changed", a, state(9, live("zz", 4)))
	}
}

// TestParseOfTruncatedEncodings: wherever they end, with and without a digest.
func TestParseOfTruncatedEncodings(t *testing.T) {
	for _, l := range examples() {
		b := encoding(300, l...)
		for n := range b {
			checkRefused(t, "truncated", b[:n], api.ErrForm)
		}
		front := b[:len(b)-32]
		for n := 0; n < len(front); n += 1 + n/200 {
			want, e := parsed(sealed(front[:n]))
			checkParse(t, "truncated, with its digest", sealed(front[:n]), want, e)
		}
	}
}

// TestParseOfLongerEncodings: with bytes behind the last digest, or before it.
func TestParseOfLongerEncodings(t *testing.T) {
	for _, l := range append(examples(), numbered(mostRecords)) {
		b := encoding(300, l...)
		for _, n := range []int{1, 2, 31, 32, 33, 64, 100} {
			for _, x := range []byte{0, 1, 255} {
				behind := bytes.Repeat([]byte{x}, n)
				checkRefused(t, "with bytes behind", slices.Concat(b, behind), api.ErrForm)
				checkRefused(t, "with bytes before the digest", sealed(slices.Concat(b[:len(b)-32], behind)), api.ErrForm)
			}
		}
		checkRefused(t, "sealed twice", sealed(b), api.ErrForm)
		checkRefused(t, "twice", slices.Concat(b, b), api.ErrForm)
	}
}

// TestParseOfChangedEncodings: with any one byte changed they are refused, with
// the error that the form asks for.
func TestParseOfChangedEncodings(t *testing.T) {
	for _, l := range examples() {
		b := encoding(300, l...)
		for i := range b {
			for _, mask := range []byte{1, 128, 255} {
				b[i] ^= mask
				_, e := parsed(b)
				if e == api.OK {
					t.Fatalf("%x is an encoding, too", b)
				}
				checkRefused(t, "a byte changed", b, e)
				b[i] ^= mask
			}
		}
	}
}

// TestParseOfResealedEncodings: with any one byte changed, and the right last
// digest, they are refused for a record's own digest, or what is parsed has that
// encoding.
func TestParseOfResealedEncodings(t *testing.T) {
	for _, l := range [][]record.Record{nil, {dead("a")}, {dead("a"), live("b", 300)}} {
		front := body(300, encoded(l...)...)
		for i, was := range front {
			for x := range 256 {
				front[i] = byte(x)
				want, e := parsed(sealed(front))
				checkParse(t, "a byte changed, with its digest", sealed(front), want, e)
			}
			front[i] = was
		}
	}
}

func TestParseOfOtherDigests(t *testing.T) {
	for _, l := range append(examples(), numbered(mostRecords)) {
		b := encoding(5, l...)
		front := b[:len(b)-32]
		for i := range 32 {
			b[len(front)+i] ^= 1 << (i % 8)
			checkRefused(t, "a wrong last digest", b, api.ErrDigest)
			b[len(front)+i] ^= 1 << (i % 8)
		}
		for _, d := range [][32]byte{{}, sha256.Sum256(nil), sha256.Sum256(front[1:]), sha256.Sum256(b)} {
			checkRefused(t, "another last digest", append(bytes.Clone(front), d[:]...), api.ErrDigest)
		}
	}
}

// TestParseOfManyRecords: their number alone is too much, whatever follows it.
func TestParseOfManyRecords(t *testing.T) {
	for _, n := range []int{129, 130, 200, 16384} {
		var l [][]byte
		for i := range n {
			l = append(l, dead(fmt.Sprintf("f%05d", i)).Bytes())
		}
		b := sealed(body(3, l...))
		checkRefused(t, "many records", b, api.ErrMany)
		checkRefused(t, "many records, truncated", b[:50], api.ErrMany)
		checkRefused(t, "many records, more behind", append(bytes.Clone(b), 0), api.ErrMany)
		b[len(b)-1]++
		checkRefused(t, "many records, and another digest", b, api.ErrMany)
		clear(b[4 : len(b)-32])
		checkRefused(t, "many that are no records", b, api.ErrMany)
	}
	for _, n := range []uint64{129, 1 << 32, math.MaxInt} {
		checkRefused(t, "many records, none of which is there", sealed(binary.AppendUvarint([]byte{3}, n)), api.ErrMany)
	}
	checkRefused(t, "no number that an int can have", sealed(binary.AppendUvarint([]byte{3}, 1<<63)), api.ErrForm)
	checkRefused(t, "128 records that are not there", sealed(binary.AppendUvarint([]byte{3}, 128)), api.ErrForm)
}

// TestParseOfLongRecords: the length of one alone is too much. The records are
// not examined before all have the right form.
func TestParseOfLongRecords(t *testing.T) {
	good := dead("a").Bytes()
	for _, n := range []int{4097, 4098, 5000, 1 << 17} {
		long := make([]byte, n)
		for _, l := range [][][]byte{{long}, {good, long}, {long, good}, {make([]byte, 4096), long}, {{}, good, long, good}} {
			b := sealed(body(3, l...))
			checkRefused(t, "a long record", b, api.ErrMany)
			checkRefused(t, "a long record, truncated", b[:len(b)-100], api.ErrMany)
			checkRefused(t, "a long record, more behind", append(bytes.Clone(b), 0), api.ErrMany)
			b[len(b)-1]++
			checkRefused(t, "a long record, and another digest", b, api.ErrMany)
		}
	}
	checkRefused(t, "a record of 4,096 bytes", sealed(body(3, make([]byte, 4096))), api.ErrForm)
	checkRefused(t, "a long record that is not there", sealed(append([]byte{3, 1}, 0x81, 0x20)), api.ErrMany)
	checkRefused(t, "a record of 4,096 bytes that is not there", sealed(append([]byte{3, 1}, 0x80, 0x20)), api.ErrForm)
	checkRefused(t, "a truncated record before a long one", sealed([]byte{3, 2, 100, 0x81, 0x20}), api.ErrForm)
	checkRefused(t, "a long number before many records", sealed([]byte{0x83, 0, 129, 1}), api.ErrForm)
}

// TestParseOfOtherRecords: the first record that chapter 10 refuses decides,
// wherever it is, but not before the digest.
func TestParseOfOtherRecords(t *testing.T) {
	a, b, z := dead("a").Bytes(), live("b", 300).Bytes(), dead("z").Bytes()
	all := firstErrors()
	for bad, want := range all {
		x := []byte(bad)
		for _, l := range [][][]byte{{x}, {x, a}, {a, x}, {a, x, z}, {a, b, x}, {x, x, x}, {b, a, x}, {a, a, x}, {x, b, a}, {z, x, a}} {
			whole := sealed(body(3, l...))
			checkRefused(t, "a record that is none", whole, want)
			checkRefused(t, "a record that is none, more behind", append(bytes.Clone(whole), 0), api.ErrForm)
			whole[len(whole)-1]++
			checkRefused(t, "a record that is none, and another digest", whole, api.ErrDigest)
		}
		for other := range all {
			checkRefused(t, "two records that are none", sealed(body(3, a, x, []byte(other))), want)
			checkRefused(t, "two records that are none", sealed(body(3, b, a, x, z, []byte(other))), want)
		}
	}
}

// TestParseOfOtherOrders: all records are right, but not all paths increase.
func TestParseOfOtherOrders(t *testing.T) {
	a, b, c := dead("a").Bytes(), live("a/b", 300).Bytes(), dead("b").Bytes()
	again := live("a", 3).Bytes()
	checkParse(t, "increasing paths", sealed(body(3, a, b, c)), state(3, dead("a"), live("a/b", 300), dead("b")), api.OK)
	for _, l := range [][][]byte{
		{a, a}, {a, again}, {again, a}, {b, a}, {c, a}, {c, b}, {a, a, b}, {a, b, b}, {a, b, a}, {a, c, b}, {b, a, c},
		{b, c, a}, {c, a, b}, {c, b, a}, {a, b, c, c}, {a, b, c, a}, {a, again, b, c},
	} {
		whole := sealed(body(3, l...))
		checkRefused(t, "paths that do not increase", whole, api.ErrForm)
		whole[len(whole)-1]++
		checkRefused(t, "paths that do not increase, and another digest", whole, api.ErrDigest)
	}
	l := examples()[len(examples())-1]
	for i := range mostRecords - 1 {
		swapped := slices.Clone(l)
		swapped[i], swapped[i+1] = swapped[i+1], swapped[i]
		checkRefused(t, "two of 128 records exchanged", encoding(3, swapped...), api.ErrForm)
		swapped[i] = swapped[i+1]
		checkRefused(t, "one of 128 records twice", encoding(3, swapped...), api.ErrForm)
	}
}

// TestParseOfOtherForms: numbers in more bytes than they need, or greater than
// an int.
func TestParseOfOtherForms(t *testing.T) {
	r := dead("a").Bytes()
	n := byte(len(r))
	for what, b := range map[string][]byte{
		"a generation alone":                {0},
		"a long generation":                 {0x80, 0, 0},
		"a generation greater than an int":  {0x80, 0x80, 0x80, 0x80, 0x80, 0x80, 0x80, 0x80, 0x80, 1, 0},
		"a generation without an end":       {255, 255, 255, 255, 255, 255, 255, 255, 255, 255, 255, 0},
		"a long number of records":          append([]byte{0, 0x81, 0, n}, r...),
		"a long length of a record":         append([]byte{0, 1, n | 0x80, 0}, r...),
		"one record less than there are":    slices.Concat([]byte{0, 1, n}, r, []byte{n}, r),
		"one record more than there are":    append([]byte{0, 2, n}, r...),
		"a record that is longer":           append([]byte{0, 1, n + 1}, r...),
		"a record that is shorter":          append([]byte{0, 1, n - 1}, r...),
		"a record of no bytes":              {0, 1, 0},
		"a record of no bytes, and another": append([]byte{0, 2, 0, n}, r...),
		"a record that is not in the list":  append([]byte{0, 0, n}, r...),
		"a record without its length":       append([]byte{0, 1}, r...),
		"a record without its own digest":   append([]byte{0, 1, n - 32}, r[:n-32]...),
	} {
		checkRefused(t, what, sealed(b), api.ErrForm)
	}
	checkRefused(t, "no bytes", nil, api.ErrForm)
	for n := range 40 {
		checkRefused(t, "zeros", make([]byte, n), map[bool]api.Errno{true: api.ErrDigest, false: api.ErrForm}[n == 34])
	}
}

// TestParseOfArbitraryBytes: encodings with bytes changed, removed, inserted or
// appended, most with the right last digest.
func TestParseOfArbitraryBytes(t *testing.T) {
	random := rand.New(rand.NewSource(4))
	l := examples()[:6]
	var bad []string
	for b := range firstErrors() {
		bad = append(bad, b)
	}
	slices.Sort(bad)
	counts := map[api.Errno]int{}
	for range 40000 {
		list := encoded(l[random.Intn(len(l))]...)
		for range random.Intn(3) {
			at := random.Intn(len(list) + 1)
			x := []byte(bad[random.Intn(len(bad))])
			if random.Intn(2) == 0 {
				x = live(fmt.Sprint(random.Intn(3)), random.Intn(300)).Bytes()
			}
			list = slices.Insert(list, at, x)
		}
		b := body(random.Intn(1<<random.Intn(41)), list...)
		if random.Intn(2) == 0 {
			b = mutated(random, b)
		}
		b = sealed(b)
		if random.Intn(10) == 0 {
			b[random.Intn(len(b))] ^= byte(1 << random.Intn(8))
		}
		want, e := parsed(b)
		counts[e]++
		checkParse(t, "arbitrary", b, want, e)
	}
	for _, e := range []api.Errno{api.OK, api.ErrForm, api.ErrMany, api.ErrDigest, api.ErrRange} {
		if counts[e] < 50 {
			t.Errorf("only %d results with error %d", counts[e], e)
		}
	}
}

// mutated returns bytes with one of them changed, inserted or removed.
func mutated(random *rand.Rand, b []byte) []byte {
	at := random.Intn(min(len(b), 1+random.Intn(300)))
	x := byte(random.Intn(256) >> random.Intn(8))
	switch random.Intn(4) {
	case 0:
		return slices.Insert(b, at, x)
	case 1:
		return slices.Delete(b, at, at+1)
	}
	b[at] = x
	return b
}
