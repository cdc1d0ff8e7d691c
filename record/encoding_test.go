package record_test

import (
	"bytes"
	"crypto/sha256"
	"encoding/binary"
	"encoding/hex"
	"math"
	"math/rand"
	"slices"
	"strings"
	"testing"

	"darner/api"
	"darner/disk"
	"darner/record"
	"darner/vector"
)

// sealed returns bytes with their digest behind them.
func sealed(b []byte) []byte {
	d := sha256.Sum256(b)
	return append(bytes.Clone(b), d[:]...)
}

// body is what the last digest of a record's encoding is the digest of. The
// record need not be valid.
func body(r record.Record) []byte {
	b := binary.AppendUvarint(nil, uint64(len(r.Path)))
	b = append(b, r.Path...)
	var pairs []int
	for replica, n := range r.Version {
		if n != 0 {
			pairs = append(pairs, replica, n)
		}
	}
	for _, n := range append([]int{r.Stamp.Size, r.Stamp.Time, r.Stamp.Change, len(pairs) / 2}, pairs...) {
		b = binary.AppendUvarint(b, uint64(n))
	}
	if r.Dead {
		return append(b, 1)
	}
	b = append(append(b, 0), r.Whole[:]...)
	b = binary.AppendUvarint(b, uint64(len(r.Blocks)))
	for _, d := range r.Blocks {
		b = append(b, d[:]...)
	}
	return b
}

// encoding is that of a record, as the chapter defines it.
func encoding(r record.Record) []byte {
	return sealed(body(r))
}

// input is what is left of bytes, and the first error of what was read so far.
type input struct {
	rest []byte
	e    api.Errno
}

func (in *input) fail(e api.Errno) {
	if in.e == api.OK {
		in.e = e
	}
	in.rest = nil
}

func (in *input) number(most uint64, reason api.Errno) int {
	n, size := binary.Uvarint(in.rest)
	if size <= 0 || n > math.MaxInt || len(binary.AppendUvarint(nil, n)) != size {
		in.fail(api.ErrForm)
		return 0
	}
	if n > most {
		in.fail(reason)
		return 0
	}
	in.rest = in.rest[size:]
	return int(n)
}

func (in *input) bytes(n int) []byte {
	if n > len(in.rest) {
		in.fail(api.ErrForm)
		return make([]byte, n)
	}
	b := in.rest[:n]
	in.rest = in.rest[n:]
	return b
}

func (in *input) digest() [32]byte { return [32]byte(in.bytes(32)) }

func (in *input) vector() (v vector.Vector) {
	before := -1
	for range in.number(16, api.ErrForm) {
		replica := in.number(15, api.ErrForm)
		n := in.number(maxCount, api.ErrForm)
		if replica <= before || n == 0 {
			in.fail(api.ErrForm)
			break
		}
		before, v[replica] = replica, n
	}
	return v
}

// parsed is what Parse returns, as the chapter defines it.
func parsed(b []byte) (record.Record, api.Errno) {
	in := &input{rest: b}
	var r record.Record
	r.Path = string(in.bytes(in.number(100, api.ErrMany)))
	r.Stamp.Size = in.number(math.MaxInt, api.ErrForm)
	r.Stamp.Time = in.number(math.MaxInt, api.ErrForm)
	r.Stamp.Change = in.number(math.MaxInt, api.ErrForm)
	r.Version = in.vector()
	r.Dead = in.number(1, api.ErrForm) == 1
	if !r.Dead {
		r.Whole = in.digest()
		for range in.number(64, api.ErrMany) {
			r.Blocks = append(r.Blocks, in.digest())
		}
	}
	last := in.digest()
	switch {
	case in.e != api.OK:
		return record.Record{}, in.e
	case len(in.rest) > 0:
		return record.Record{}, api.ErrForm
	case sha256.Sum256(b[:len(b)-32]) != last:
		return record.Record{}, api.ErrDigest
	case !r.Good():
		return record.Record{}, api.ErrRange
	}
	return r, api.OK
}

// checkParse checks what Parse returns.
func checkParse(t *testing.T, what string, b []byte, want record.Record, wantError api.Errno) {
	t.Helper()
	got, e := record.Parse(b)
	if !equal(got, want) || e != wantError {
		t.Errorf("P10.1, P10.2: Parse of %.200x (%s): %.200s, error %d instead of %.200s, error %d", b, what, text(got), e, text(want), wantError)
	}
}

// checkRefused checks that Parse returns an error.
func checkRefused(t *testing.T, what string, b []byte, want api.Errno) {
	t.Helper()
	checkParse(t, what, b, record.Record{}, want)
}

// examples are valid records of all kinds.
func examples() []record.Record {
	l := []record.Record{
		dead("x", disk.Stamp{}, vector.Vector{1}),
		dead(longest, disk.Stamp{Time: math.MaxInt, Change: 1 << 40}, version),
		live("x", nil, disk.Stamp{}, vector.Vector{15: maxCount}),
		live(longest, content(300), disk.Stamp{Time: 1 << 35, Change: math.MaxInt}, version),
	}
	for _, n := range sizes {
		l = append(l, sized(n))
	}
	for _, c := range allVariants() {
		if c.valid && strings.HasPrefix(c.what, "version") && len(l) < 40 {
			l = append(l, c.r)
		}
	}
	return l
}

func TestKnownEncodings(t *testing.T) {
	for _, c := range []struct {
		r record.Record
		b string
	}{
		{dead("x", disk.Stamp{Time: 1, Change: 2}, vector.Vector{1: 2}), "\x01x\x00\x01\x02\x01\x01\x02\x01"},
		{dead("d/x", disk.Stamp{Time: 300}, vector.Vector{0: 1, 15: 128}), "\x03d/x\x00\xac\x02\x00\x02\x00\x01\x0f\x80\x01\x01"},
		{
			live("x", nil, disk.Stamp{Time: 5, Change: 6}, vector.Vector{3}),
			"\x01x\x00\x05\x06\x01\x00\x03\x00" + digest("") + "\x00",
		},
		{
			live("x", []byte("abc"), disk.Stamp{Time: 5, Change: 6}, vector.Vector{3}),
			"\x01x\x03\x05\x06\x01\x00\x03\x00" + digest("abc") + "\x01" + digest("abc"),
		},
		{
			live("x", []byte(strings.Repeat("a", 257)), disk.Stamp{}, vector.Vector{3}),
			"\x01x\x81\x02\x00\x00\x01\x00\x03\x00" + digest(strings.Repeat("a", 257)) + "\x02" + digest(strings.Repeat("a", 256)) + digest("a"),
		},
	} {
		b := []byte(c.b + digest(c.b))
		if got := c.r.Bytes(); !bytes.Equal(got, b) {
			t.Errorf("P10.1: Bytes of %s: %x instead of %x", text(c.r), got, b)
		}
		checkParse(t, "known", b, c.r, api.OK)
	}
	whole, _ := hex.DecodeString("ba7816bf8f01cfea414140de5dae2223b00361a396177a9cb410ff61f20015ad")
	if r, e := record.Of("x", []byte("abc"), plain, version); e != api.OK || !bytes.Equal(r.Whole[:], whole) {
		t.Errorf("P10.1: Of abc: Whole %x", r.Whole)
	}
}

// digest is that of a text.
func digest(s string) string {
	d := sha256.Sum256([]byte(s))
	return string(d[:])
}

func TestEncodingsOfExamples(t *testing.T) {
	for _, r := range examples() {
		if got := r.Bytes(); !bytes.Equal(got, encoding(r)) {
			t.Errorf("P10.1: Bytes of %.300s: %x instead of %x", text(r), got, encoding(r))
		}
		checkParse(t, "its Bytes", r.Bytes(), r, api.OK)
		if back, _ := record.Parse(r.Bytes()); !record.Same(back, r) {
			t.Errorf("P10.2: %.300s is not the same as what its encoding is parsed as", text(r))
		}
	}
}

// TestEncodingsOfVariants: those of records that are not valid are nothing, and
// are refused where there are any.
func TestEncodingsOfVariants(t *testing.T) {
	refused := 0
	for _, c := range allVariants() {
		b := encoding(c.r)
		if !c.valid {
			if got := c.r.Bytes(); len(got) != 0 {
				t.Errorf("P10.1: Bytes of %.300s (%s), which is not valid: %x", text(c.r), c.what, got)
			}
			if c.r.Dead && (len(c.r.Blocks) > 0 || c.r.Whole != [32]byte{}) {
				continue // No encoding has the digests of a deleted file.
			}
			want := api.ErrRange
			if _, e := parsed(b); e == api.ErrForm || e == api.ErrMany {
				want = e
			}
			checkRefused(t, c.what, b, want)
			if want == api.ErrRange {
				refused++
				b[len(b)-1]++
				checkRefused(t, c.what+", and another digest", b, api.ErrDigest)
			}
			continue
		}
		if got := c.r.Bytes(); !bytes.Equal(got, b) {
			t.Errorf("P10.1: Bytes of %.300s (%s): %.300x", text(c.r), c.what, got)
		}
		checkParse(t, c.what, b, c.r, api.OK)
	}
	if refused < 500 {
		t.Errorf("only %d encodings are refused with ErrRange", refused)
	}
}

// TestParseOfTruncatedEncodings: wherever they end, with and without a digest.
func TestParseOfTruncatedEncodings(t *testing.T) {
	for _, r := range examples() {
		b := encoding(r)
		for n := range b {
			checkRefused(t, "truncated", b[:n], api.ErrForm)
		}
		front := body(r)
		for n := 0; n < len(front); n += 1 + n/200 {
			want, e := parsed(sealed(front[:n]))
			checkParse(t, "truncated, with its digest", sealed(front[:n]), want, e)
		}
	}
}

// TestParseOfLongerEncodings: with bytes behind the last digest, or before it.
func TestParseOfLongerEncodings(t *testing.T) {
	for _, r := range examples() {
		b := encoding(r)
		for n := 1; n < 70; n++ {
			for _, x := range []byte{0, 1, 255} {
				behind := bytes.Repeat([]byte{x}, n)
				checkRefused(t, "with bytes behind", slices.Concat(b, behind), api.ErrForm)
				checkRefused(t, "with bytes before the digest", sealed(slices.Concat(body(r), behind)), api.ErrForm)
			}
		}
		checkRefused(t, "sealed twice", sealed(b), api.ErrForm)
		checkRefused(t, "twice", slices.Concat(b, b), api.ErrForm)
	}
}

// TestParseOfChangedEncodings: with any one byte changed they are refused, with
// the error that the form asks for.
func TestParseOfChangedEncodings(t *testing.T) {
	for _, r := range examples() {
		b := encoding(r)
		for i := range b {
			for _, mask := range []byte{1, 2, 128, 255} {
				b[i] ^= mask
				_, e := parsed(b)
				if e == api.OK {
					t.Fatalf("%x is an encoding, too", b)
				}
				checkRefused(t, "a byte changed", b, e)
				b[i] ^= mask
			}
		}
	}
}

// TestParseOfAllChangedBytes: each byte becomes each other one.
func TestParseOfAllChangedBytes(t *testing.T) {
	for _, r := range []record.Record{dead("d/x", plain, version), sized(300)} {
		b := encoding(r)
		for i, was := range b {
			for x := range 256 {
				b[i] = byte(x)
				want, e := parsed(b)
				if (e == api.OK) != (b[i] == was) {
					t.Fatalf("%x: error %d", b, e)
				}
				checkParse(t, "a byte changed", b, want, e)
			}
			b[i] = was
		}
	}
}

func TestParseOfOtherDigests(t *testing.T) {
	for _, r := range examples() {
		front := body(r)
		for i := range 32 {
			b := sealed(front)
			b[len(front)+i] ^= 1 << (i % 8)
			checkRefused(t, "a wrong last digest", b, api.ErrDigest)
		}
		other := sha256.Sum256(front[1:])
		for _, d := range [][32]byte{{}, r.Whole, other, sha256.Sum256(nil), sha256.Sum256(sealed(front))} {
			checkRefused(t, "another last digest", append(bytes.Clone(front), d[:]...), api.ErrDigest)
		}
	}
}

// TestParseOfLongPaths: their length alone is too much, whatever follows it.
func TestParseOfLongPaths(t *testing.T) {
	for _, n := range []int{101, 102, 127, 128, 300, 16384, 1 << 20} {
		for _, r := range []record.Record{sized(300), dead("x", plain, version)} {
			r.Path = strings.Repeat("a", n)
			b := encoding(r)
			checkRefused(t, "a long path", b, api.ErrMany)
			checkRefused(t, "a long path, truncated", b[:50], api.ErrMany)
			b[len(b)-1]++
			checkRefused(t, "a long path, and another digest", b, api.ErrMany)
		}
		checkRefused(t, "a long path alone", binary.AppendUvarint(nil, uint64(n)), api.ErrMany)
	}
	checkRefused(t, "the greatest length alone", binary.AppendUvarint(nil, math.MaxInt), api.ErrMany)
	checkRefused(t, "no length that an int can have", binary.AppendUvarint(nil, 1<<63), api.ErrForm)
	checkRefused(t, "a permitted length alone", []byte{100}, api.ErrForm)
}

func TestParseOfManyDigests(t *testing.T) {
	for _, n := range []int{65, 66, 127, 128, 200} {
		for _, size := range []int{300, maxFile, maxFile + 1, n * 256} {
			r := sized(300)
			r.Stamp.Size, r.Blocks = size, make([][32]byte, n)
			b := encoding(r)
			checkRefused(t, "many digests", b, api.ErrMany)
			b[len(b)-1]++
			checkRefused(t, "many digests, and another last one", b, api.ErrMany)
		}
	}
	r := sized(0)
	front := body(r)[:len(body(r))-1]
	for _, n := range []uint64{65, 128, 1 << 32, math.MaxInt} {
		checkRefused(t, "many digests, none of which is there", binary.AppendUvarint(bytes.Clone(front), n), api.ErrMany)
	}
	for _, n := range []uint64{1, 64, 1 << 63} {
		checkRefused(t, "digests that are not there", sealed(binary.AppendUvarint(bytes.Clone(front), n)), api.ErrForm)
	}
}

// TestParseOfOtherForms: the parts of an encoding that are of another form, all
// with the right last digest.
func TestParseOfOtherForms(t *testing.T) {
	for what, c := range map[string]struct {
		b    string
		want api.Errno
	}{
		"right":                        {"\x01x\x00\x01\x02\x01\x00\x03\x01", api.OK},
		"a long length of the path":    {"\x81\x00x\x00\x01\x02\x01\x00\x03\x01", api.ErrForm},
		"a long Size":                  {"\x01x\x80\x00\x01\x02\x01\x00\x03\x01", api.ErrForm},
		"a long Time":                  {"\x01x\x00\x81\x00\x02\x01\x00\x03\x01", api.ErrForm},
		"a long Change":                {"\x01x\x00\x01\x82\x00\x01\x00\x03\x01", api.ErrForm},
		"a Size that is too great":     {"\x01x\x80\x80\x80\x80\x80\x80\x80\x80\x80\x01\x01\x02\x01\x00\x03\x01", api.ErrForm},
		"a Time that is too great":     {"\x01x\x00\x80\x80\x80\x80\x80\x80\x80\x80\x80\x01\x02\x01\x00\x03\x01", api.ErrForm},
		"a Change that is too great":   {"\x01x\x00\x01\x80\x80\x80\x80\x80\x80\x80\x80\x80\x01\x01\x00\x03\x01", api.ErrForm},
		"the greatest Size":            {"\x01x\xff\xff\xff\xff\xff\xff\xff\xff\x7f\x01\x02\x01\x00\x03\x01", api.ErrRange},
		"the greatest Time":            {"\x01x\x00\xff\xff\xff\xff\xff\xff\xff\xff\x7f\x02\x01\x00\x03\x01", api.OK},
		"the greatest Change":          {"\x01x\x00\x01\xff\xff\xff\xff\xff\xff\xff\xff\x7f\x01\x00\x03\x01", api.OK},
		"a Size of a deleted file":     {"\x01x\x01\x01\x02\x01\x00\x03\x01", api.ErrRange},
		"a version of zeros":           {"\x01x\x00\x01\x02\x00\x01", api.ErrRange},
		"a number 0 in the version":    {"\x01x\x00\x01\x02\x01\x00\x00\x01", api.ErrForm},
		"a replica 16":                 {"\x01x\x00\x01\x02\x01\x10\x03\x01", api.ErrForm},
		"a replica twice":              {"\x01x\x00\x01\x02\x02\x05\x03\x05\x03\x01", api.ErrForm},
		"17 replicas":                  {"\x01x\x00\x01\x02\x11\x00\x03\x01", api.ErrForm},
		"a number above MaxCount":      {"\x01x\x00\x01\x02\x01\x00\x81\x80\x80\x80\x80\x20\x01", api.ErrForm},
		"no path":                      {"\x00\x00\x01\x02\x01\x00\x03\x01", api.ErrRange},
		"a temp path":                  {"\x06.tmp~x\x00\x01\x02\x01\x00\x03\x01", api.ErrRange},
		"a sidecar's path":             {"\x06.par~x\x00\x01\x02\x01\x00\x03\x01", api.ErrRange},
		"a path that is none":          {"\x02x/\x00\x01\x02\x01\x00\x03\x01", api.ErrRange},
		"a path that is no UTF-8":      {"\x01\xff\x00\x01\x02\x01\x00\x03\x01", api.ErrRange},
		"Dead 2":                       {"\x01x\x00\x01\x02\x01\x00\x03\x02", api.ErrForm},
		"Dead in two bytes":            {"\x01x\x00\x01\x02\x01\x00\x03\x81\x00", api.ErrForm},
		"digests of a deleted file":    {"\x01x\x00\x01\x02\x01\x00\x03\x01" + digest("") + "\x00", api.ErrForm},
		"no digests":                   {"\x01x\x00\x01\x02\x01\x00\x03\x00", api.ErrForm},
		"a long number of the list":    {"\x01x\x00\x01\x02\x01\x00\x03\x00" + digest("") + "\x80\x00", api.ErrForm},
		"a digest for no bytes":        {"\x01x\x00\x01\x02\x01\x00\x03\x00" + digest("") + "\x01" + digest(""), api.ErrRange},
		"no digest for a byte":         {"\x01x\x01\x01\x02\x01\x00\x03\x00" + digest("a") + "\x00", api.ErrRange},
		"a digest for a byte":          {"\x01x\x01\x01\x02\x01\x00\x03\x00" + digest("a") + "\x01" + digest("a"), api.OK},
		"a Size above MaxFile":         {"\x01x\x81\x80\x01\x01\x02\x01\x00\x03\x00" + digest("a") + "\x40" + strings.Repeat(digest("a"), 64), api.ErrRange},
		"a Size of MaxFile":            {"\x01x\x80\x80\x01\x01\x02\x01\x00\x03\x00" + digest("a") + "\x40" + strings.Repeat(digest("a"), 64), api.OK},
		"digests that are no digests":  {"\x01x\x05\x01\x02\x01\x00\x03\x00" + strings.Repeat("\x00", 32) + "\x01" + strings.Repeat("\xff", 32), api.OK},
		"a long path of another form":  {"\x65/", api.ErrMany},
		"the greatest length and more": {"\xff\xff\xff\xff\xff\xff\xff\xff\xff\xff", api.ErrForm},
	} {
		b := sealed([]byte(c.b))
		want, e := parsed(b)
		if e != c.want {
			t.Errorf("%s: the test expects error %d and %d", what, c.want, e)
		}
		checkParse(t, what, b, want, c.want)
	}
	checkRefused(t, "no bytes", nil, api.ErrForm)
	checkRefused(t, "zeros", make([]byte, 100), api.ErrForm)
}

// TestParseOfArbitraryBytes: encodings with bytes changed, removed, inserted or
// appended, most with the right last digest.
func TestParseOfArbitraryBytes(t *testing.T) {
	r := rand.New(rand.NewSource(2))
	l := examples()
	counts := map[api.Errno]int{}
	for range 60000 {
		b := body(l[r.Intn(len(l))])
		for range 1 + r.Intn(3) {
			// The bytes before the digests matter most.
			at := r.Intn(min(len(b), 1+r.Intn(200)) + 1)
			front, behind := b[:at:at], b[at:]
			x := byte(r.Intn(256) >> r.Intn(8))
			switch {
			case r.Intn(5) == 0 || at == len(b):
				b = append(append(front, x), behind...)
			case r.Intn(5) == 0:
				b = append(front, behind[1:]...)
			default:
				b = append(append(front, x), behind[1:]...)
			}
		}
		b = sealed(b)
		if r.Intn(10) == 0 {
			b[r.Intn(len(b))] ^= byte(1 << r.Intn(8))
		}
		want, e := parsed(b)
		counts[e]++
		checkParse(t, "arbitrary", b, want, e)
		if got, e := record.Parse(b); e == api.OK && !bytes.Equal(got.Bytes(), b) {
			t.Errorf("P10.2: %x is parsed as %s, whose encoding is %x", b, text(got), got.Bytes())
		}
	}
	for _, e := range []api.Errno{api.OK, api.ErrForm, api.ErrMany, api.ErrDigest, api.ErrRange} {
		if counts[e] < 50 {
			t.Errorf("only %d results with error %d", counts[e], e)
		}
	}
}
