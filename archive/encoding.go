package archive

import (
	"math"

	"darner/api"
	"darner/codec"
	"darner/record"
	"darner/sha"
)

// mostBytes is the greatest length of an encoded record.
const mostBytes = 4096

// Bytes returns the encoding.
func (a *Archive) Bytes() []byte {
	var w codec.Writer
	w.Number(a.generation)
	w.Number(len(a.records))
	for r := range a.All() {
		w.Bytes(r.Bytes())
	}
	w.Digest(sha.Sum(w.Done()))
	return w.Done()
}

// Parse returns the archive that bytes are the encoding of. It returns ErrForm if
// they do not have that form, ErrMany if it is for the number of records or the
// length of one; ErrDigest if the last digest is wrong; the error of the first
// record that has one; ErrForm if the paths are not strictly increasing.
func Parse(b []byte) (*Archive, api.Errno) {
	var generation int
	var list [][]byte
	var last [32]byte
	e := codec.Read(b, func(in *codec.Reader) {
		generation = in.Number(math.MaxInt)
		for range in.Count(mostRecords) {
			list = append(list, in.Bytes(mostBytes))
		}
		last = in.Digest()
	})
	switch {
	case e != api.OK:
		return nil, e
	case sha.Sum(b[:len(b)-len(last)]) != last:
		return nil, api.ErrDigest
	}
	records, e := parseRecords(list)
	if e != api.OK {
		return nil, e
	}
	return &Archive{generation: generation, records: records}, api.OK
}

// parseRecords returns records by path, given their encodings. It returns the
// error of the first one that has one, ErrForm if the paths are not strictly
// increasing.
func parseRecords(list [][]byte) (map[string]record.Record, api.Errno) {
	records := map[string]record.Record{}
	increasing, before := true, ""
	for _, b := range list {
		r, e := record.Parse(b)
		if e != api.OK {
			return nil, e
		}
		// A later record may still have an error, which comes first.
		increasing = increasing && before < r.Path
		before = r.Path
		records[r.Path] = r
	}
	if !increasing {
		return nil, api.ErrForm
	}
	return records, api.OK
}
