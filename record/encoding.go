package record

import (
	"math"

	"darner/api"
	"darner/codec"
	"darner/disk"
	"darner/sha"
	"darner/vector"
)

// Bytes returns the encoding of a valid record, nothing for others.
func (r Record) Bytes() []byte {
	if !r.Good() {
		return nil
	}
	var w codec.Writer
	r.put(&w)
	w.Digest(sha.Sum(w.Done()))
	return w.Done()
}

// Parse returns the record that bytes are the encoding of. It returns ErrForm if
// they do not have that form, ErrMany if it is for the length of the path or the
// number of digests; ErrDigest if the last digest is wrong; ErrRange if the
// record is not valid.
func Parse(b []byte) (Record, api.Errno) {
	var r Record
	var last [32]byte
	e := codec.Read(b, func(in *codec.Reader) {
		r = take(in)
		last = in.Digest()
	})
	switch {
	case e != api.OK:
		return Record{}, e
	case sha.Sum(b[:len(b)-len(last)]) != last:
		return Record{}, api.ErrDigest
	case !r.Good():
		return Record{}, api.ErrRange
	}
	return r, api.OK
}

// put writes what the last digest of the encoding is the digest of.
func (r Record) put(w *codec.Writer) {
	w.Text(r.Path)
	w.Number(r.Stamp.Size)
	w.Number(r.Stamp.Time)
	w.Number(r.Stamp.Change)
	r.Version.Put(w)
	w.Truth(r.Dead)
	if r.Dead {
		return
	}
	w.Digest(r.Whole)
	w.Number(len(r.Blocks))
	for _, d := range r.Blocks {
		w.Digest(d)
	}
}

// take reads what put writes. The record that it returns may not be valid.
func take(in *codec.Reader) Record {
	r := Record{
		Path:    in.Text(api.MaxPath),
		Stamp:   disk.Stamp{Size: number(in), Time: number(in), Change: number(in)},
		Version: vector.Take(in),
		Dead:    in.Truth(),
	}
	if r.Dead {
		return r
	}
	r.Whole = in.Digest()
	for range in.Count(count(api.MaxFile)) {
		r.Blocks = append(r.Blocks, in.Digest())
	}
	return r
}

// number reads any number: one that is out of range has the right form.
func number(in *codec.Reader) int {
	return in.Number(math.MaxInt)
}
