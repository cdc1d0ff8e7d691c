package lane

import "slices"

// Work is what is done with a file in a tick.
type Work struct {
	Path     string
	From, To int  // The blocks that are done, without To.
	Enrol    bool // Whether the file is in the enrol lane.
	Done     bool // Whether this finishes it.
}

// A file is in one of the lanes.
type file struct {
	path   string
	blocks int
	done   int
	tick   int // In which it was last finished, if it is in the scrub lane.
}

// A shift is what happens in a tick.
type shift struct {
	tick     int
	left     int // The blocks that may still be done.
	done     []Work
	finished []file
}

// work does the blocks of a queue's first files, and returns the queue without
// those that are finished. A file without remaining blocks needs nothing to be
// left.
func (s *shift) work(queue []file, enrol bool) []file {
	n := 0
	for n < len(queue) && (s.left > 0 || queue[n].done == queue[n].blocks) {
		if s.workOn(&queue[n], enrol) {
			n++
		}
	}
	return slices.Delete(queue, 0, n)
}

// workOn does as many of a file's blocks as possible, and reports whether it is
// finished.
func (s *shift) workOn(f *file, enrol bool) bool {
	from := f.done
	f.done = min(f.blocks, from+s.left)
	s.left -= f.done - from
	finished := f.done == f.blocks
	s.done = append(s.done, Work{Path: f.path, From: from, To: f.done, Enrol: enrol, Done: finished})
	if finished {
		s.finished = append(s.finished, file{path: f.path, blocks: f.blocks, tick: s.tick})
	}
	return finished
}
