package archive_test

import (
	"bytes"
	"fmt"
	"math"
	"math/rand"
	"slices"
	"strings"
	"testing"

	"darner/api"
	"darner/archive"
	"darner/disk"
	"darner/record"
)

const (
	first     = ".par~archive.0"
	second    = ".par~archive.1"
	maxStored = 1 << 18
	maxFiles  = 64
	maxRoom   = 1 << 20
)

// a file is what a disk has, or is to have, at a path.
type file struct {
	p    string
	size int
}

// holding returns a disk that has files, written in their order, and synced.
func holding(room int, files ...file) *disk.Disk {
	d := disk.New(room)
	for _, f := range files {
		if e := d.Write(f.p, content(f.size), 3); e != api.OK {
			panic(fmt.Sprint("Write of ", f.p, ": ", e))
		}
	}
	d.Sync()
	return d
}

// many returns n files of a byte each.
func many(n int) []file {
	var l []file
	for i := range n {
		l = append(l, file{fmt.Sprint("many/f", i), 1})
	}
	return l
}

// shown is all of a disk.
func shown(d *disk.Disk) string {
	out := fmt.Sprint(d.Room(), " ", d.Used(), " ", d.Waiting())
	for _, p := range d.Paths() {
		s, _ := d.Stat(p)
		b, _ := d.Read(p)
		out += fmt.Sprintf("\n%s %v %x", p, s, b)
	}
	return out
}

// at returns an archive of a generation.
func at(generation int, l ...record.Record) *archive.Archive {
	a, e := archive.Parse(encoding(generation, l...))
	if e != api.OK {
		panic(fmt.Sprint("Parse: ", e))
	}
	return a
}

// entry returns the number of bytes that a record adds to an encoding.
func entry(r record.Record) int {
	return len(encoding(0, r)) - len(encoding(0))
}

// padded returns a record that adds n bytes, somewhat less than 2,200 at most.
func padded(name string, n int) record.Record {
	blocks := min(63, (n-entry(live(name, 511)))/32+2)
	r := live(name, 256*blocks-1)
	return live(name+strings.Repeat(name, n-entry(r)), 256*blocks-1)
}

// exactly returns records whose encoding as an archive, with a generation of one
// byte, has n bytes, of which there are many.
func exactly(n int) []record.Record {
	var l []record.Record
	left := n - len(encoding(0))
	for one := entry(live("f000", maxFile)); left > 2*one; left -= one {
		l = append(l, live(fmt.Sprintf("f%03d", len(l)), maxFile))
	}
	l = append(l, padded("x", left/2), padded("y", left-left/2))
	if got := len(encoding(0, l...)); got != n {
		panic(fmt.Sprint("an encoding of ", got, " bytes instead of ", n))
	}
	return l
}

// checkSaved checks a Save that is to succeed: the archive, the copies, their
// stamps, what is beside them, and that nothing is pending.
func checkSaved(t *testing.T, what string, a *archive.Archive, d *disk.Disk) {
	t.Helper()
	beside := others(d)
	changes := counter(d)
	l := slices.Collect(a.All())
	generation := a.Generation() + 1
	checkError(t, "Save "+what, a.Save(d, -70), api.OK)
	checkSeen(t, "Save "+what, a, state(generation, l...))
	want := encoding(generation, l...)
	for _, p := range []string{first, second} {
		b, e := d.Read(p)
		s, _ := d.Stat(p)
		if e != api.OK || !bytes.Equal(b, want) {
			t.Errorf("P11.1: Save %s: the bytes of %s: %.100x, error %d", what, p, b, e)
		}
		if s.Size != len(want) || s.Time != -70 || s.Change <= changes {
			t.Errorf("P11.1: Save %s: the stamp of %s: %v, behind change %d", what, p, s, changes)
		}
		changes = s.Change // The first copy is written before the second one.
	}
	if got := others(d); got != beside {
		t.Errorf("P11.1: Save %s: the other files: %.300s instead of %.300s", what, got, beside)
	}
	if d.Waiting() != 0 {
		t.Errorf("P11.1: Save %s: %d changes are pending", what, d.Waiting())
	}
	now := shown(d)
	if d.Crash(nil); shown(d) != now {
		t.Errorf("P11.1: Save %s: a crash changes the disk", what)
	}
}

// checkNotSaved checks a Save that is to fail.
func checkNotSaved(t *testing.T, what string, a *archive.Archive, d *disk.Disk, want api.Errno) {
	t.Helper()
	wasArchive, wasDisk := seen(a), shown(d)
	checkError(t, "Save "+what, a.Save(d, 8), want)
	checkSeen(t, "R4: Save "+what, a, wasArchive)
	if shown(d) != wasDisk {
		t.Errorf("R4, P11.1: Save %s: the disk is changed", what)
	}
}

// others is all of a disk but the copies, and what is pending.
func others(d *disk.Disk) string {
	out := ""
	for _, p := range d.Paths() {
		if p != first && p != second {
			s, _ := d.Stat(p)
			b, _ := d.Read(p)
			out += fmt.Sprintf("%s %v %x\n", p, s, b)
		}
	}
	return out
}

// counter returns the greatest change of the files.
func counter(d *disk.Disk) int {
	n := 0
	for _, p := range d.Paths() {
		s, _ := d.Stat(p)
		n = max(n, s.Change)
	}
	return n
}

func TestSave(t *testing.T) {
	for _, l := range append(examples(), numbered(mostRecords)) {
		a, d := with(l...), holding(maxRoom)
		for range 3 {
			checkSaved(t, "without other files", a, d)
		}
		d = holding(maxRoom, file{"a", 5}, file{"d/.par~archive.0", 9}, file{".par~archive.2/x", 3}, file{".par~archive", 0})
		for range 3 {
			checkSaved(t, "beside other files", a, d)
		}
		a.Set(live("a/b", 3))
		checkSaved(t, "with another record", a, d)
		checkSaved(t, "over what are no copies", a, holding(maxRoom, file{first, 3}, file{second, 30000}))
	}
}

// TestSaveSyncs: what was pending is durable behind it, too.
func TestSaveSyncs(t *testing.T) {
	d := holding(maxRoom, file{"a", 5}, file{"b", 6})
	d.Write("c", []byte("new"), 7)
	d.Remove("a")
	d.Rename("b", "d")
	checkSaved(t, "with changes that are pending", with(several()...), d)
	if got := fmt.Sprint(d.Paths()); got != "[.par~archive.0 .par~archive.1 c d]" {
		t.Errorf("P11.1: Save, with changes that are pending: %s", got)
	}
}

// TestSavedStamps: each copy is written once, the first one first.
func TestSavedStamps(t *testing.T) {
	a, d := with(several()...), holding(maxRoom, file{"a", 5}, file{second, 6}, file{"b", 7})
	for i := range 4 {
		checkError(t, "Save", a.Save(d, 10*i), api.OK)
		for k, p := range []string{first, second} {
			s, _ := d.Stat(p)
			if want := (disk.Stamp{Size: len(encoding(i+1, several()...)), Time: 10 * i, Change: 4 + 2*i + k}); s != want {
				t.Errorf("P11.1: Save: the stamp of %s: %v instead of %v", p, s, want)
			}
		}
	}
}

func TestSaveTimes(t *testing.T) {
	for _, time := range []int{0, 1, 70, -1, math.MaxInt, math.MinInt} {
		a, d := with(several()...), holding(maxRoom)
		checkError(t, "Save", a.Save(d, time), api.OK)
		for _, p := range []string{first, second} {
			if s, _ := d.Stat(p); s.Time != time {
				t.Errorf("P11.1: Save at %d: the stamp of %s: %v", time, p, s)
			}
		}
	}
}

func TestGenerations(t *testing.T) {
	for _, generation := range []int{0, 1, 126, 127, 128, 16383, maxCount - 2, maxCount - 1} {
		a := at(generation, several()...)
		if a.Generation() != generation {
			t.Errorf("P11.1: Generation of a parsed archive: %d instead of %d", a.Generation(), generation)
		}
		checkSaved(t, fmt.Sprint("of generation ", generation), a, holding(maxRoom))
	}
	a, d := at(maxCount-1), holding(maxRoom)
	checkSaved(t, "of generation MaxCount - 1", a, d)
	checkNotSaved(t, "of generation MaxCount", a, d, api.ErrRange)
	checkNotSaved(t, "of generation MaxCount", at(maxCount, several()...), holding(maxRoom), api.ErrRange)
	checkNotSaved(t, "of a copy of generation MaxCount", at(maxCount).Copy(), holding(maxRoom), api.ErrRange)
}

// TestGreatGenerations: the chapter does not say whether they are parsed. They
// are not saved under a number that is no generation.
func TestGreatGenerations(t *testing.T) {
	for _, generation := range []int{maxCount + 1, math.MaxInt - 1, math.MaxInt} {
		b := encoding(generation, several()...)
		a, e := archive.Parse(b)
		if e != api.OK {
			continue
		}
		d := holding(maxRoom)
		if e := a.Save(d, 1); a.Generation() < generation || e != api.OK && len(d.Paths()) > 0 {
			t.Errorf("P6: Save of generation %d: generation %d, error %d", generation, a.Generation(), e)
		}
	}
}

// TestGreatestEncoding: what counts is the encoding with the next generation.
func TestGreatestEncoding(t *testing.T) {
	for _, size := range []int{maxStored - 1, maxStored} {
		l := exactly(size)
		checkSaved(t, fmt.Sprint("of ", size, " bytes"), with(l...), holding(maxRoom))
		checkSaved(t, fmt.Sprint("of ", size, " bytes"), at(126, l...), holding(maxRoom))
	}
	checkSaved(t, "of a byte less, which is one more by the generation", at(127, exactly(maxStored-1)...), holding(maxRoom))
	checkNotSaved(t, "of a byte more by the generation", at(127, exactly(maxStored)...), holding(maxRoom), api.ErrRange)
	checkSaved(t, "of two bytes of the generation", at(128, exactly(maxStored-1)...), holding(maxRoom))
	checkNotSaved(t, "of two bytes of the generation", at(128, exactly(maxStored)...), holding(maxRoom), api.ErrRange)
	for _, size := range []int{maxStored + 1, maxStored + 2, maxStored + 5000} {
		checkNotSaved(t, fmt.Sprint("of ", size, " bytes"), with(exactly(size)...), holding(maxRoom), api.ErrRange)
	}
	d := holding(maxRoom)
	a := with(exactly(maxStored)...)
	checkSaved(t, "of MaxStored bytes", a, d)
	a.Set(live("z", 1))
	checkNotSaved(t, "of more than MaxStored bytes", a, d, api.ErrRange)
	a.Drop("z")
	checkSaved(t, "of MaxStored bytes again", a, d)
}

func TestSaveBesideClashingPaths(t *testing.T) {
	for _, p := range []string{first + "/x", second + "/x", first + "/a/b/c", second + "/" + second, first + "/.tmp~x"} {
		checkNotSaved(t, "beside "+p, with(several()...), holding(maxRoom, file{"a", 5}, file{p, 0}), api.ErrThere)
		for _, other := range []string{first, second} {
			if !strings.HasPrefix(p, other) {
				checkNotSaved(t, "beside "+other+" and "+p, archive.New(), holding(maxRoom, file{other, 5}, file{p, 3}), api.ErrThere)
			}
		}
	}
	d := holding(maxRoom)
	a := with(several()...)
	checkSaved(t, "before a path clashes", a, d)
	d.Remove(second)
	d.Write(second+"/x", nil, 1)
	checkNotSaved(t, "with a path that clashes", a, d, api.ErrThere)
	d.Remove(second + "/x")
	checkSaved(t, "with no path that clashes any more", a, d)
	beside := []file{{".par~archive", 1}, {".par~archive.00/x", 1}, {".par~archive.2/x", 1}, {"d/.par~archive.0", 1}, {".par~archive.1x", 1}}
	checkSaved(t, "beside paths that do not clash", a, holding(maxRoom, beside...))
}

// TestRoom: just enough of it, and a byte less; with files beside the copies,
// and none of these, either one, or both, with fewer and more bytes than the new
// ones.
func TestRoom(t *testing.T) {
	for _, l := range [][]record.Record{nil, several()} {
		n := len(encoding(1, l...))
		for _, beside := range [][]file{nil, {{"a", 1}}, {{"a", 300}, {"b/c", 0}, {"b/d", 2000}, {".par~archive", 77}}} {
			for _, a := range []int{-1, 0, 1, n - 1, n, n + 1, 3 * n} {
				for _, b := range []int{-1, 0, 1, n - 1, n, n + 1, 3 * n} {
					checkRoom(t, l, n, beside, a, b)
				}
			}
		}
	}
}

// checkRoom checks Save of an encoding of n bytes beside files, with present
// copies of a and b bytes, or none where that is negative.
func checkRoom(t *testing.T, l []record.Record, n int, beside []file, a, b int) {
	t.Helper()
	files := slices.Clone(beside)
	for _, f := range []file{{first, a}, {second, b}} {
		if f.size >= 0 {
			files = append(files, f)
		}
	}
	used := 0
	for _, f := range beside {
		used += f.size
	}
	need := max(used+2*n, used+n+max(b, 0))
	least := used + max(a, 0) + max(b, 0) // Of less, the disk does not have room for its files.
	what := fmt.Sprintf("of %d bytes beside %v", n, files)
	checkSaved(t, what+", with just enough room", with(l...), holding(max(need, least), files...))
	checkSaved(t, what+", with more than enough room", with(l...), holding(max(need, least)+1, files...))
	if need > least {
		checkNotSaved(t, what+", with too little room", with(l...), holding(need-1, files...), api.ErrFull)
		checkNotSaved(t, what+", with too little room", with(l...), holding(least, files...), api.ErrFull)
	}
}

// TestRoomOfGenerations: what counts is the encoding with the next generation.
func TestRoomOfGenerations(t *testing.T) {
	n := len(encoding(127, several()...))
	checkSaved(t, "with just enough room", at(126, several()...), holding(2*n))
	checkNotSaved(t, "with too little room for the generation", at(127, several()...), holding(2*n), api.ErrFull)
	checkNotSaved(t, "with too little room for the generation", at(127, several()...), holding(2*n+1), api.ErrFull)
	checkSaved(t, "with just enough room for the generation", at(127, several()...), holding(2*n+2))
	checkNotSaved(t, "with no room", archive.New(), holding(0), api.ErrFull)
	checkNotSaved(t, "with the greatest room", at(0, exactly(maxStored)...), holding(maxRoom, file{"a", maxStored}, file{"b", maxStored}, file{"c", 1}), api.ErrFull)
	checkSaved(t, "with the greatest room", at(0, exactly(maxStored)...), holding(maxRoom, file{"a", maxStored}, file{"b", maxStored}))
}

// TestFilesBesideCopies: there may be 62 of them, whether or not the copies are
// there already.
func TestFilesBesideCopies(t *testing.T) {
	for _, present := range [][]file{nil, {{first, 9}}, {{second, 9}}, {{first, 9}, {second, 9}}} {
		for n := 60; n+len(present) <= maxFiles; n++ {
			d := holding(maxRoom, append(many(n), present...)...)
			what := fmt.Sprint("beside ", n, " files, with ", present)
			if n <= 62 {
				checkSaved(t, what, with(several()...), d)
			} else {
				checkNotSaved(t, what, with(several()...), d, api.ErrFull)
			}
		}
	}
}

// TestSaveWithSeveralErrors: ErrRange comes first, then ErrThere.
func TestSaveWithSeveralErrors(t *testing.T) {
	archives := map[*archive.Archive]bool{
		with(several()...): false, at(maxCount): true, with(exactly(maxStored + 1)...): true, at(maxCount, exactly(maxStored+1)...): true,
	}
	for a, tooGreat := range archives {
		for _, clash := range []bool{false, true} {
			for _, room := range []int{100, maxRoom} {
				for _, n := range []int{0, 63} {
					files := many(n)
					if clash {
						files = append(files, file{second + "/x", 0})
					}
					want := api.OK
					switch {
					case tooGreat:
						want = api.ErrRange
					case clash:
						want = api.ErrThere
					case room == 100 || n == 63:
						want = api.ErrFull
					}
					if want != api.OK {
						checkNotSaved(t, fmt.Sprint("with several errors, of error ", want), a, holding(room, files...), want)
					}
				}
			}
		}
	}
}

// TestSaveBeyondLimits: a crash can leave more files, or more bytes, than a disk
// may have.
func TestSaveBeyondLimits(t *testing.T) {
	d := holding(1000, file{"a", 1000})
	d.Remove("a")
	d.Write("b", content(900), 1)
	d.Crash([]bool{false, true})
	checkNotSaved(t, "with more bytes than the capacity", archive.New(), d, api.ErrFull)
	d.Remove("a")
	checkSaved(t, "with 900 of 1000 bytes", archive.New(), d)

	d = holding(maxRoom, many(maxFiles)...)
	d.Remove("many/f0")
	d.Write("b", nil, 1)
	d.Crash([]bool{false, true})
	checkNotSaved(t, "beside 65 files", archive.New(), d, api.ErrFull)
}

// TestAnySaves: of any archives, on any disks.
func TestAnySaves(t *testing.T) {
	random := rand.New(rand.NewSource(5))
	counts := map[api.Errno]int{}
	for range 2000 {
		var l []record.Record
		for i := range random.Intn(5) {
			l = append(l, live(fmt.Sprint("f", i), random.Intn(1000)))
		}
		files := many(random.Intn(2) * (59 + random.Intn(4)))
		for _, p := range []string{"a", first, second, first + "/x"} {
			if random.Intn(2) == 0 {
				files = append(files, file{p, random.Intn(600)})
			}
		}
		if random.Intn(8) > 0 {
			files = slices.DeleteFunc(files, func(f file) bool { return f.p == first+"/x" })
		} else {
			files = slices.DeleteFunc(files, func(f file) bool { return f.p == first })
		}
		files = files[max(0, len(files)-maxFiles):]
		a := at(random.Intn(300), l...)
		if random.Intn(20) == 0 {
			a = at(maxCount, l...)
		}
		used := 0
		for _, f := range files {
			used += f.size
		}
		d := holding(used+random.Intn(1+2*len(a.Bytes())), files...)
		want := expected(a, files, d.Room())
		if counts[want]++; want == api.OK {
			checkSaved(t, fmt.Sprint("beside ", files), a, d)
		} else {
			checkNotSaved(t, fmt.Sprint("beside ", files), a, d, want)
		}
	}
	for _, e := range []api.Errno{api.OK, api.ErrRange, api.ErrThere, api.ErrFull} {
		if counts[e] < 50 {
			t.Errorf("only %d results with error %d", counts[e], e)
		}
	}
}

// expected is what Save returns, as the chapter defines it.
func expected(a *archive.Archive, files []file, room int) api.Errno {
	n := len(encoding(a.Generation()+1, slices.Collect(a.All())...))
	number, used, old := 0, 0, 0
	clashing := false
	for _, f := range files {
		if strings.HasPrefix(f.p, first+"/") || strings.HasPrefix(f.p, second+"/") {
			clashing = true
		}
		switch f.p {
		case first:
		case second:
			old = f.size
		default:
			number, used = number+1, used+f.size
		}
	}
	switch {
	case a.Generation() == maxCount || n > maxStored:
		return api.ErrRange
	case clashing:
		return api.ErrThere
	case used+2*n > room || used+old+n > room || number+2 > maxFiles:
		return api.ErrFull
	}
	return api.OK
}
