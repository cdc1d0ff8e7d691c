package codec_test

import (
	"errors"
	"runtime"
	"testing"

	"darner/api"
	"darner/codec"
)

// thrown returns what f throws, or nil.
func thrown(f func()) (x any) {
	defer func() { x = recover() }()
	f()
	return nil
}

func TestReadingWithinReading(t *testing.T) {
	for name, way := range ways() {
		went := false
		e := codec.Read([]byte{7, 1, 8}, func(outer *codec.Reader) {
			first := outer.Number(9)
			inner := codec.Read(way.b, func(r *codec.Reader) {
				way.end(r)
				t.Errorf("P6.1: %s: the inner reading goes on", name)
			})
			if inner != way.reason {
				t.Errorf("P6.1: %s: error %d of the inner reading instead of %d", name, inner, way.reason)
			}
			if yes, last := outer.Truth(), outer.Number(9); first != 7 || !yes || last != 8 {
				t.Errorf("P6.1: %s: the outer reading: %d, %t, %d", name, first, yes, last)
			}
			went = true
		})
		if e != api.OK || !went {
			t.Errorf("P6.1: %s: the outer reading ended: error %d", name, e)
		}
	}
}

// TestOuterReadingEndsWithinInner: then the inner reading's Read does not return.
func TestOuterReadingEndsWithinInner(t *testing.T) {
	for name, way := range ways() {
		e := codec.Read(way.b, func(outer *codec.Reader) {
			codec.Read(nil, func(middle *codec.Reader) {
				codec.Read([]byte{1}, func(r *codec.Reader) {
					r.Number(1)
					way.end(outer)
					t.Errorf("P6.1: %s of the outer reading: the inner one goes on", name)
				})
				t.Errorf("P6.1: %s of the outer reading: the middle one goes on", name)
			})
			t.Errorf("P6.1: %s: the outer reading goes on", name)
		})
		if e != way.reason {
			t.Errorf("P6.1: %s: error %d of the outer reading instead of %d", name, e, way.reason)
		}
	}
}

func TestReadingsWithinReadings(t *testing.T) {
	b := encoding([]byte{1, 2}, []byte{0, 3}, []byte{5, 6, 7}, true)
	var got []api.Errno
	e := codec.Read(b, func(r *codec.Reader) {
		for range 3 {
			part := r.Bytes(9)
			got = append(got, codec.Read(part, func(r *codec.Reader) {
				for range 2 {
					if n := r.Number(9); n == 3 {
						r.Fail(api.ErrOrder)
					}
				}
			}))
		}
		if !r.Truth() {
			t.Error("P6.1: a truth behind three readings: false")
		}
	})
	if e != api.OK || len(got) != 3 || got[0] != api.OK || got[1] != api.ErrOrder || got[2] != api.ErrForm {
		t.Errorf("P6.1: readings of three parts: %v, error %d", got, e)
	}
}

// TestReadingsOneInAnother: each of many ends for its own reason.
func TestReadingsOneInAnother(t *testing.T) {
	var nested func(depth int) api.Errno
	nested = func(depth int) api.Errno {
		return codec.Read(nil, func(r *codec.Reader) {
			if depth < 100 {
				if e := nested(depth + 1); e != api.Errno(depth+1) {
					t.Errorf("P6.1: reading %d within others: error %d", depth+1, e)
				}
			}
			r.Fail(api.Errno(depth))
		})
	}
	if e := nested(1); e != 1 {
		t.Errorf("P6.1: the outermost of many readings: error %d", e)
	}
}

type ownError struct{ n int }

func (ownError) Error() string { return "own" }

func TestOtherPanicsArePassedOn(t *testing.T) {
	var kept *codec.Reader
	codec.Read(nil, func(r *codec.Reader) { kept = r })
	for _, x := range []any{
		"mine", 7, 0, false, 2.5, ownError{3}, &ownError{3}, errors.New("an error"), [2]int{1, 2}, struct{}{},
		api.OK, api.ErrForm, api.ErrMany, api.Errno(99), kept, &codec.Writer{},
	} {
		if got := thrown(func() { codec.Read([]byte{1}, func(r *codec.Reader) { panic(x) }) }); got != x {
			t.Errorf("P6.1: the panic %T %v: %T %v is passed on", x, x, got, got)
		}
		if got := thrown(func() {
			codec.Read([]byte{1}, func(outer *codec.Reader) {
				outer.Number(1)
				codec.Read(nil, func(r *codec.Reader) { panic(x) })
				t.Errorf("P6.1: the panic %T %v: the outer reading goes on", x, x)
			})
		}); got != x {
			t.Errorf("P6.1: the panic %T %v of an inner reading: %T %v is passed on", x, x, got, got)
		}
	}
}

// TestReaderAsPanic: the reader itself is no end of its reading.
func TestReaderAsPanic(t *testing.T) {
	var own *codec.Reader
	if got := thrown(func() {
		codec.Read(nil, func(r *codec.Reader) {
			own = r
			panic(r)
		})
	}); got != own {
		t.Errorf("P6.1: the reader as a panic: %v", got)
	}
}

func TestPanicsOfTheRuntimeArePassedOn(t *testing.T) {
	none := []int{}
	var noNumber *int
	for name, f := range map[string]func(){
		"an index":     func() { none[len(none)]++ },
		"nil":          func() { *noNumber = 1 },
		"a division":   func() { none = append(none, 1/len(none)) },
		"a panic(nil)": func() { panic(nil) },
	} {
		x := thrown(func() { codec.Read(nil, func(r *codec.Reader) { f() }) })
		if _, ok := x.(runtime.Error); !ok {
			t.Errorf("P6.1: %s: %T is passed on", name, x)
		}
	}
}

// TestAfterOtherPanics: nothing of them remains.
func TestAfterOtherPanics(t *testing.T) {
	for range 3 {
		thrown(func() { codec.Read([]byte{1}, func(r *codec.Reader) { panic("mine") }) })
		if e := codec.Read([]byte{1}, func(r *codec.Reader) { r.Number(1) }); e != api.OK {
			t.Errorf("R8: a reading after a panic: error %d", e)
		}
		if e := codec.Read([]byte{2}, func(r *codec.Reader) { r.Number(1) }); e != api.ErrMany {
			t.Errorf("R8: a reading after a panic: error %d instead of %d", e, api.ErrMany)
		}
	}
}

// TestPanicWhileReadingEnds: of a deferred call of f.
func TestPanicWhileReadingEnds(t *testing.T) {
	if got := thrown(func() {
		codec.Read(nil, func(r *codec.Reader) {
			defer func() { panic("mine") }()
			r.Truth()
		})
	}); got != "mine" {
		t.Errorf("P6.1: a panic while a reading ends: %v", got)
	}
	if got := thrown(func() {
		codec.Read(nil, func(r *codec.Reader) {
			thrown(func() { r.Truth() })
			panic("mine")
		})
	}); got != "mine" {
		t.Errorf("P6.1: a panic after a reading has ended: %v", got)
	}
}

// TestReadWhileAnotherPanic: a reading of a deferred call does not catch it.
func TestReadWhileAnotherPanic(t *testing.T) {
	for name, way := range ways() {
		var ended, complete api.Errno
		if got := thrown(func() {
			defer func() {
				ended = codec.Read(way.b, way.end)
				complete = codec.Read([]byte{4}, func(r *codec.Reader) { r.Number(4) })
			}()
			panic("mine")
		}); got != "mine" {
			t.Errorf("P6.1: %s: a reading catches a panic that is not of its f: %v", name, got)
		}
		if ended != way.reason || complete != api.OK {
			t.Errorf("P6.1: %s: readings during a panic: errors %d, %d", name, ended, complete)
		}
	}
}

// TestEndThatIsRecovered: f cannot keep its reading from being ended.
func TestEndThatIsRecovered(t *testing.T) {
	for name, way := range ways() {
		if e := codec.Read(way.b, func(r *codec.Reader) {
			thrown(func() { way.end(r) })
		}); e != way.reason {
			t.Errorf("P6.1: %s, recovered: error %d instead of %d", name, e, way.reason)
		}
		e := codec.Read(append(way.b[:len(way.b):len(way.b)], make([]byte, 40)...), func(r *codec.Reader) {
			thrown(func() { r.Fail(api.ErrSingular) })
			for again, other := range ways() {
				if thrown(func() { other.end(r) }) == nil {
					t.Errorf("P6.1: %s: executed after the reading has ended", again)
				}
			}
			thrown(func() {
				r.Number(100)
				t.Error("P6.1: a number is read after the reading has ended")
			})
			thrown(func() {
				r.Truth()
				t.Error("P6.1: a truth is read after the reading has ended")
			})
			thrown(func() {
				r.Digest()
				t.Error("P6.1: a digest is read after the reading has ended")
			})
			way.end(r)
			t.Errorf("P6.1: %s: the ended reading goes on", name)
		})
		if e != api.ErrSingular {
			t.Errorf("P6.1: %s, after another reason: error %d instead of %d", name, e, api.ErrSingular)
		}
	}
}

// TestEndThatIsThrownAgain: what f has recovered may go on to Read, the one of
// its own reading.
func TestEndThatIsThrownAgain(t *testing.T) {
	if e := codec.Read(nil, func(r *codec.Reader) {
		x := thrown(func() { r.Fail(api.ErrFew) })
		codec.Read(nil, func(r *codec.Reader) { panic(x) })
		t.Error("P6.1: the outer end is caught by the inner reading")
	}); e != api.ErrFew {
		t.Errorf("P6.1: an end that is thrown again: error %d", e)
	}
	var old any
	codec.Read(nil, func(r *codec.Reader) { old = thrown(func() { r.Fail(api.ErrFew) }) })
	if got := thrown(func() { codec.Read(nil, func(r *codec.Reader) { panic(old) }) }); got != old {
		t.Errorf("P6.1: the end of another reading: %v", got)
	}
}

// TestOutsideOfReading: a reader that is kept has nothing left, and throws
// nothing, because nobody would catch it.
func TestOutsideOfReading(t *testing.T) {
	var kept []*codec.Reader
	keep := func(r *codec.Reader) { kept = append(kept, r) }
	codec.Read(nil, keep)
	codec.Read(make([]byte, 50), keep)
	codec.Read([]byte{1}, func(r *codec.Reader) { keep(r); r.Number(0) })
	thrown(func() { codec.Read([]byte{1, 1}, func(r *codec.Reader) { keep(r); panic("mine") }) })
	for i, r := range append(kept, &codec.Reader{}) {
		for name, way := range ways() {
			if x := thrown(func() { way.end(r) }); x != nil {
				t.Errorf("P6: %s of kept reader %d: the panic %v", name, i, x)
			}
		}
		for _, most := range []int{-1, 0, 1, 100} {
			if r.Left() != 0 || r.Number(most) != 0 || r.Count(most) != 0 || len(r.Bytes(most)) != 0 || r.Text(most) != "" || r.Truth() || r.Digest() != [32]byte{} {
				t.Errorf("P6: kept reader %d: something is read", i)
			}
		}
	}
}
