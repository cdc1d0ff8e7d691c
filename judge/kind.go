package judge

import "darner/gauge"

// Kind is what a path is, by its record and its file.
type Kind int

const (
	None    Kind = iota // Neither a record nor a file.
	New                 // A file without a record.
	Missing             // A record of an existing file, which is missing.
	Clean               // The same stamp, the same bytes.
	Rot                 // The same stamp, but other bytes.
	Edit                // A different stamp, other bytes.
	Touched             // A different stamp, but the same bytes.
	Gone                // A record of a deleted file, which is missing.
	Reborn              // A record of a deleted file, but there is one.
)

// names has the names of the kinds.
var names = [9]string{"none", "new", "missing", "clean", "rot", "edit", "touched", "gone", "reborn"}

// Text returns the name of a kind, "?" for what is none.
func (k Kind) Text() string {
	if !k.exists() {
		return "?"
	}
	return names[k]
}

// Serves reports whether a file of that kind may be served.
func (k Kind) Serves() bool {
	return k == Clean || k == Touched
}

// Health returns, by the number of paths of each kind, the rate of those whose
// file may be served among those that have a file, or should have one; a NaN if
// there are none.
func Health(n [9]int) float64 {
	good, all := 0, 0
	for i, count := range n {
		k := Kind(i)
		if k.Serves() {
			good += count
		}
		if k != None && k != Gone {
			all += count
		}
	}
	return gauge.Rate(good, all)
}

// exists reports whether there is such a kind.
func (k Kind) exists() bool {
	return None <= k && k <= Reborn
}
