package archive

import (
	"bytes"

	"darner/api"
	"darner/disk"
	"darner/path"
)

// copies are the paths of the two copies.
var copies = [2]string{".par~archive.0", ".par~archive.1"}

// Known reports whether a path is that of a copy.
func Known(p string) bool {
	for _, c := range copies {
		if p == c {
			return true
		}
	}
	return false
}

// Save increments the generation, and stores the archive twice on a disk. It
// returns ErrRange if the generation is MaxCount, or the encoding would have more
// than MaxStored bytes; ErrThere if the path of a file clashes with that of a
// copy; ErrFull if there is no room for the copies.
func (a *Archive) Save(d *disk.Disk, time int) api.Errno {
	if a.generation >= api.MaxCount {
		return api.ErrRange
	}
	next := a.Copy()
	next.generation++
	b := next.Bytes()
	if e := refusal(d, len(b)); e != api.OK {
		return e
	}
	for _, c := range copies {
		d.Write(c, b, time) // It was not refused: it succeeds.
		d.Sync()            // A crash can concern only one copy at a time.
	}
	a.generation = next.generation
	return api.OK
}

// Load returns the archive that a disk has, and how many of the copies are its
// encoding. It returns ErrNone if there are no copies, ErrDigest if none that is
// there is the encoding of an archive.
func Load(d *disk.Disk) (*Archive, int, api.Errno) {
	var latest *Archive
	reason := api.ErrNone
	for _, c := range copies {
		b, e := d.Read(c)
		if e != api.OK {
			continue
		}
		reason = api.ErrDigest
		a, e := Parse(b)
		if e == api.OK && (latest == nil || a.generation > latest.generation) {
			latest = a
		}
	}
	if latest == nil {
		return nil, 0, reason
	}
	return latest, number(d, latest.Bytes()), api.OK
}

// refusal returns the error of saving an encoding of that many bytes.
func refusal(d *disk.Disk, size int) api.Errno {
	switch {
	case size > api.MaxStored:
		return api.ErrRange
	case clashes(d):
		return api.ErrThere
	case !hasRoom(d, size):
		return api.ErrFull
	}
	return api.OK
}

// clashes reports whether the path of a file clashes with that of a copy.
func clashes(d *disk.Disk) bool {
	for _, p := range d.Paths() {
		for _, c := range copies {
			if path.Clash(p, c) {
				return true
			}
		}
	}
	return false
}

// hasRoom reports whether a disk has room for copies of a size: for both, and
// for the first one while the second one is still the present one.
func hasRoom(d *disk.Disk, size int) bool {
	files, used := 0, 0 // Those beside the copies.
	for _, p := range d.Paths() {
		if !Known(p) {
			s, _ := d.Stat(p)
			files, used = files+1, used+s.Size
		}
	}
	second, _ := d.Stat(copies[1]) // Where it is missing, it has no bytes.
	return used+size+max(size, second.Size) <= d.Room() && files+len(copies) <= api.MaxFiles
}

// number returns how many of the copies have those bytes.
func number(d *disk.Disk, b []byte) int {
	n := 0
	for _, c := range copies {
		stored, e := d.Read(c)
		if e == api.OK && bytes.Equal(stored, b) {
			n++
		}
	}
	return n
}
