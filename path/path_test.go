package path_test

import (
	"fmt"
	"math"
	"math/rand"
	"slices"
	"strings"
	"testing"

	"darner/api"
	"darner/path"
)

// characters are those that a name may have.
const characters = "abcdefghijklmnopqrstuvwxyzABCDEFGHIJKLMNOPQRSTUVWXYZ0123456789-_.~+"

// The kinds, by their numbers in the chapter.
const (
	none = iota
	temp
	sidecar
	other
)

// isPath is what the chapter calls a path, byte by byte.
func isPath(s string) bool {
	if len(s) < 1 || len(s) > 100 {
		return false
	}
	for _, name := range strings.Split(s, "/") {
		if name == "" || name == "." || name == ".." {
			return false
		}
		for _, b := range []byte(name) {
			if strings.IndexByte(characters, b) < 0 {
				return false
			}
		}
	}
	return true
}

// cut returns what precedes the last name, with its "/", and the last name.
func cut(s string) (front, name string) {
	names := strings.SplitAfter(s, "/")
	last := len(names) - 1
	return strings.Join(names[:last], ""), names[last]
}

func kindOf(s string) int {
	_, name := cut(s)
	switch {
	case !isPath(s):
		return none
	case len(name) >= 5 && name[:5] == ".tmp~":
		return temp
	case len(name) >= 5 && name[:5] == ".par~":
		return sidecar
	}
	return other
}

func liesIn(s, dir string) bool {
	return len(s) >= len(dir)+2 && s[:len(dir)+1] == dir+"/"
}

func clashing(a, b string) bool {
	return liesIn(a, b) || liesIn(b, a)
}

// checkGood checks Good and Kind of a string.
func checkGood(t *testing.T, s string) {
	t.Helper()
	if got, want := path.Good(s), isPath(s); got != want {
		t.Errorf("P7.1: Good(%q): %v instead of %v", s, got, want)
	}
	if got, want := path.Kind(s), kindOf(s); got != want {
		t.Errorf("P7.1: Kind(%q): %d instead of %d", s, got, want)
	}
}

// upTo returns all strings of up to n of the parts.
func upTo(n int, parts ...string) []string {
	all := []string{""}
	for last := all; n > 0; n-- {
		var longer []string
		for _, s := range last {
			for _, part := range parts {
				longer = append(longer, s+part)
			}
		}
		all = append(all, longer...)
		last = longer
	}
	return all
}

// arbitrary returns a string that is a path, close to one, or none at all.
func arbitrary(r *rand.Rand) string {
	parts := []string{"a", "B", "9", ".", "..", "/", "/", "//", "~", "+", "_", "-", ".tmp~", ".par~", " ", "ä", "\xff", "\x00",
		strings.Repeat("x", 40), strings.Repeat("y/", 20)}
	most := 1 + r.Intn(len(parts))
	var s strings.Builder
	for range r.Intn(9) {
		s.WriteString(parts[r.Intn(most)])
	}
	return s.String()
}

func TestKnownPaths(t *testing.T) {
	for s, want := range map[string]int{
		"a": other, "a/b": other, "a/b/c.txt": other, "Z": other, "0": other, "-": other, "_": other, "~": other, "+": other,
		"a/-/_/~/+/0": other, characters: other,
		"": none, " ": none, "a b": none, "a\\b": none, "a:b": none, "a*": none, "a\n": none,
	} {
		if path.Kind(s) != want || path.Good(s) != (want != none) {
			t.Errorf("P7.1: Kind(%q): %d instead of %d; Good: %v", s, path.Kind(s), want, path.Good(s))
		}
	}
}

// TestSingleBytes: every byte as a name, and beside others.
func TestSingleBytes(t *testing.T) {
	named := 0
	for b := range 256 {
		c := string([]byte{byte(b)})
		isNamed := strings.Contains(characters, c)
		if isNamed {
			named++
		}
		for s, want := range map[string]bool{
			c:                       isNamed && c != ".",
			c + c:                   isNamed && c != ".",
			c + c + c:               isNamed,
			"a" + c:                 isNamed,
			c + "a":                 isNamed,
			"a/" + c:                isNamed && c != ".",
			c + "/a":                isNamed && c != ".",
			"a" + c + "a":           isNamed || c == "/",
			"a/b" + c + "b/a":       isNamed || c == "/",
			".tmp~" + c:             isNamed,
			".par~" + c + "/.tmp~a": isNamed,
		} {
			if got := path.Good(s); got != want {
				t.Errorf("P7.1: Good(%q): %v instead of %v", s, got, want)
			}
			checkGood(t, s)
		}
	}
	if named != 26+26+10+5 {
		t.Errorf("%d characters of names", named)
	}
}

func TestNamesOfDots(t *testing.T) {
	for name, want := range map[string]bool{
		".": false, "..": false, "...": true, "....": true, ".a": true, "..a": true, "a.": true, "a..": true, "a.b": true,
		".-": true, "-.": true, "..-": true, ".~": true, ".0": true, "0..": true, "._.": true,
	} {
		for _, s := range []string{name, name + "/a", "a/" + name, "a/" + name + "/b", name + "/" + name, ".../" + name, ".tmp~/" + name} {
			if got := path.Good(s); got != want {
				t.Errorf("P7.1: Good(%q): %v instead of %v", s, got, want)
			}
			checkGood(t, s)
		}
	}
}

func TestEmptyNames(t *testing.T) {
	for _, s := range []string{
		"", "/", "//", "///", "/a", "//a", "/a/b", "a/", "a//", "a/b/", "a//b", "a/b//c", "a//b/c", "a///b",
		"/.tmp~a", ".tmp~a/", "/.par~a", ".par~a/", ".tmp~/", "a//.tmp~b", "a//.par~b",
	} {
		if path.Good(s) || path.Kind(s) != none {
			t.Errorf("P7.1: %q: Good: %v, Kind: %d", s, path.Good(s), path.Kind(s))
		}
	}
}

// TestLengths: strings of up to 300 bytes, of one name, of many, of both marks.
func TestLengths(t *testing.T) {
	for n := range 301 {
		for _, s := range []string{
			strings.Repeat("a", n),
			strings.Repeat("a/", 150)[:n],
			"a" + strings.Repeat("/b", 150)[:n],
			(".tmp~" + strings.Repeat("a", 300))[:n],
			("a/.par~" + strings.Repeat("a", 300))[:n],
			strings.Repeat("a/bc", 100)[:n] + "d",
		} {
			checkGood(t, s)
		}
	}
	for _, n := range []int{1, 2, 99, 100, 101, 102, 128, 200, 256, 257, 355, 356, 357, 65536 + 1, 65536 + 100, 1 << 20} {
		if got := path.Good(strings.Repeat("a", n)); got != (n <= api.MaxPath) {
			t.Errorf("P7.1: Good of a name of %d bytes: %v", n, got)
		}
		if got := path.Kind(".tmp~" + strings.Repeat("a", n)); got != kindOf(".tmp~"+strings.Repeat("a", n)) {
			t.Errorf("P7.1: Kind of .tmp~ and %d bytes: %d", n, got)
		}
		if s := strings.Repeat("a/", n); path.Good(s) || path.Good(s+"b") != (2*n+1 <= 100) {
			t.Errorf("P7.1: Good of %d names of one byte, and one more", n)
		}
	}
}

// TestCharactersBeyondBytes: letters and digits of other alphabets, and those
// that become permitted ones where they are cut to a byte, or change their case.
func TestCharactersBeyondBytes(t *testing.T) {
	for c := rune(128); c <= 0x10ffff; c++ {
		if s := string(c); path.Good(s) || path.Kind("a"+s) != none {
			t.Fatalf("P7.1: U+%04X in a name: Good: %v, Kind: %d", c, path.Good(s), path.Kind("a"+s))
		}
	}
	for _, s := range []string{"ä", "é/a", "a/é", "\uff41", "\u0661", "\u212a", "\u017f", ".tmp~ä", "a/.par~ä", "\ufffd", strings.Repeat("ä", 50)} {
		checkGood(t, s)
		if path.Good(s) {
			t.Errorf("P7.1: Good(%q)", s)
		}
	}
}

func TestInvalidUTF8(t *testing.T) {
	for _, part := range []string{
		"\x80", "\xbf", "\xc0\xaf", "\xc0\xae", "\xc1\xa1", "\xc3", "\xe0\x81\xa1", "\xe2\x82", "\xed\xa0\x80", "\xf0\x80\x81\xa1",
		"\xf4\x90\x80\x80", "\xf5", "\xfe", "\xff",
	} {
		for _, s := range []string{part, "a" + part, part + "a", "a/" + part, part + "/a", "a/b" + part + "b/c", ".tmp~" + part, ".par~" + part} {
			if path.Good(s) || path.Kind(s) != none {
				t.Errorf("P7.1: %q: Good: %v, Kind: %d", s, path.Good(s), path.Kind(s))
			}
		}
	}
}

func TestKindOfKnownPaths(t *testing.T) {
	for s, want := range map[string]int{
		".tmp~": temp, ".tmp~a": temp, "a/.tmp~": temp, "a/.tmp~b": temp, "a/b/.tmp~c": temp, ".tmp~a/.tmp~b": temp, ".par~a/.tmp~b": temp,
		".tmp~.par~a": temp, ".tmp~~": temp, ".tmp~.": temp,
		".par~": sidecar, ".par~a": sidecar, "a/.par~": sidecar, "a/.par~b": sidecar, "a/b/.par~c": sidecar, ".par~a/.par~b": sidecar,
		".tmp~a/.par~b": sidecar, ".par~.tmp~a": sidecar, ".par~archive.0": sidecar,
		".tmp~a/b": other, ".tmp~/b": other, ".par~a/b": other, ".par~/b": other, "a/.tmp~b/c": other, "a/.par~b/c": other,
		".tmp": other, ".par": other, ".tmp-a": other, ".par-a": other, "tmp~a": other, "par~a": other, "a.tmp~": other, "a.par~b": other,
		".Tmp~a": other, ".TMP~a": other, ".PAR~a": other, "..tmp~a": other, "..par~a": other, ".tmpp~a": other, ".paar~a": other, ".ttmp~": other,
		"~.tmp~a": other, ".temp~a": other, ".parity~a": other, "conflict~1~a": other, "~tmp.": other, ".tmp/~a": other, ".par/~": other,
		".tmp~ a": none, ".tmp~ä": none, "a//.tmp~b": none, "/.par~a": none, "../.tmp~a": none, "./.par~a": none, ".tmp~a/": none,
		".par~" + strings.Repeat("a", 95): sidecar, ".tmp~" + strings.Repeat("a", 95): temp,
		".par~" + strings.Repeat("a", 96): none, ".tmp~" + strings.Repeat("a", 96): none,
	} {
		if got := path.Kind(s); got != want {
			t.Errorf("P7.1: Kind(%q): %d instead of %d", s, got, want)
		}
		checkGood(t, s)
	}
}

// TestKindOfMarksThatDiffer: in each of their bytes.
func TestKindOfMarksThatDiffer(t *testing.T) {
	for _, mark := range []string{".tmp~", ".par~"} {
		for at := range len(mark) {
			for b := range 256 {
				changed := []byte(mark)
				changed[at] = byte(b)
				for _, s := range []string{string(changed), string(changed) + "a", "a/" + string(changed) + "b", mark + "/" + string(changed)} {
					checkGood(t, s)
				}
			}
		}
	}
}

func TestDirAndBaseOfKnownStrings(t *testing.T) {
	for s, want := range map[string][2]string{
		"": {"", ""}, "a": {"", "a"}, "abc.txt": {"", "abc.txt"}, "a/b": {"a", "b"}, "a/b/c": {"a/b", "c"}, "aa/bb/cc": {"aa/bb", "cc"},
		"/": {"", ""}, "//": {"/", ""}, "///": {"//", ""}, "/a": {"", "a"}, "a/": {"a", ""}, "a//": {"a/", ""}, "a//b": {"a/", "b"}, "//a": {"/", "a"},
		"/a/": {"/a", ""}, ".": {"", "."}, "..": {"", ".."}, "../..": {"..", ".."}, "./a": {".", "a"}, "a/.": {"a", "."},
		"ä/ö": {"ä", "ö"}, "\xff/\xfe": {"\xff", "\xfe"}, "a b/ c": {"a b", " c"}, "a\\b": {"", "a\\b"}, "\x00/\x00": {"\x00", "\x00"},
		"a/\u2215b": {"a", "\u2215b"}, "\xc0\xaf": {"", "\xc0\xaf"},
	} {
		if dir, base := path.Dir(s), path.Base(s); dir != want[0] || base != want[1] {
			t.Errorf("P7.1: Dir, Base(%q): %q, %q instead of %q", s, dir, base, want)
		}
	}
}

func TestDirAndBaseOfAnyStrings(t *testing.T) {
	check := func(s string) {
		front, base := cut(s)
		if got := path.Base(s); got != base {
			t.Errorf("P7.1: Base(%q): %q instead of %q", s, got, base)
		}
		if got := path.Dir(s); got != strings.TrimSuffix(front, "/") {
			t.Errorf("P7.1: Dir(%q): %q, where %q precedes the last name", s, got, front)
		}
	}
	for _, s := range upTo(7, "/", "a", "\xff") {
		check(s)
	}
	r := rand.New(rand.NewSource(1))
	for range 20000 {
		check(arbitrary(r))
	}
	long := strings.Repeat("a/", 100000)
	check(long)
	check(long + "b")
}

func TestInAndClashOfKnownStrings(t *testing.T) {
	for _, c := range []struct {
		s, dir string
		want   bool
	}{
		{"a/b", "a", true}, {"a/b/c", "a", true}, {"a/b/c", "a/b", true}, {"a/.", "a", true}, {"a//", "a", true}, {"a//b", "a", true}, {"a//b", "a/", true},
		{"/b", "", true}, {"//", "", true}, {"//", "/", false}, {"///", "/", true}, {"/a/b", "/a", true}, {"ä/ö", "ä", true}, {"\xff/\xfe", "\xff", true},
		{"a/ ", "a", true}, {"a/\x00", "a", true},
		{"a", "a", false}, {"a/", "a", false}, {"a/", "a/", false}, {"a/b", "a/", false}, {"a/b", "a/b", false}, {"a", "a/b", false}, {"ab", "a", false},
		{"ab/c", "a", false}, {"a.b", "a", false}, {"ba/c", "a", false}, {"b/a/c", "a", false}, {"A/b", "a", false}, {"a/b/c", "b", false},
		{"", "", false}, {"/", "", false}, {"a", "", false}, {"a/b", "", false}, {"", "a", false}, {"", "/", false}, {"a/bc", "a/b", false}, {"a\\b", "a", false},
	} {
		if got := path.In(c.s, c.dir); got != c.want {
			t.Errorf("P7.1: In(%q, %q): %v", c.s, c.dir, got)
		}
		want := c.want || liesIn(c.dir, c.s)
		if path.Clash(c.s, c.dir) != want || path.Clash(c.dir, c.s) != want {
			t.Errorf("P7.1: Clash of %q and %q: %v, %v", c.s, c.dir, path.Clash(c.s, c.dir), path.Clash(c.dir, c.s))
		}
	}
}

// TestInAndClashOfAnyStrings: of all pairs of short ones, and of others.
func TestInAndClashOfAnyStrings(t *testing.T) {
	check := func(a, b string) {
		if got, want := path.In(a, b), liesIn(a, b); got != want {
			t.Errorf("P7.1: In(%q, %q): %v instead of %v", a, b, got, want)
		}
		if got, want := path.Clash(a, b), clashing(a, b); got != want {
			t.Errorf("P7.1: Clash(%q, %q): %v instead of %v", a, b, got, want)
		}
	}
	short := upTo(5, "/", "a", "b")
	for _, a := range short {
		for _, b := range short {
			check(a, b)
		}
	}
	r := rand.New(rand.NewSource(2))
	for range 20000 {
		a, b := arbitrary(r), arbitrary(r)
		for _, c := range []string{a, a + "/", a + b, a + "/" + b, a + "//" + b, b} {
			check(a, c)
			check(c, a)
		}
	}
}

func TestTempAndSideOfKnownStrings(t *testing.T) {
	for s, want := range map[string]string{
		"a": "?a", "a/b": "a/?b", "a/b/c.txt": "a/b/?c.txt", "a/a/a": "a/a/?a", "...": "?...", "a/...": "a/?...", ".a": "?.a",
		".tmp~a": "?.tmp~a", "a/.tmp~": "a/?.tmp~", ".par~a": "?.par~a", ".tmp~a/b": ".tmp~a/?b", ".par~a/b": ".par~a/?b", ".par~archive.0": "?.par~archive.0",
		"": "", ".": "", "..": "", "a/.": "", "a/..": "", "a/": "", "/": "", "/a": "", "a//b": "", "a b": "", "ä": "", "a\x00": "", "\xff": "", "../a": "",
	} {
		for mark, f := range marking() {
			got, e := f(s)
			if want == "" && (got != "" || e != api.ErrPath) || want != "" && (got != strings.Replace(want, "?", mark, 1) || e != api.OK) {
				t.Errorf("P7.1: %s and %q: %q, error %d", mark, s, got, e)
			}
		}
	}
}

// marking are the functions that insert a mark.
func marking() map[string]func(s string) (string, api.Errno) {
	return map[string]func(s string) (string, api.Errno){".tmp~": path.Temp, ".par~": path.Side}
}

// TestTempAndSideOfAnyStrings: their results are paths of their kinds, of up to
// 100 bytes.
func TestTempAndSideOfAnyStrings(t *testing.T) {
	kinds := map[string]int{".tmp~": temp, ".par~": sidecar}
	check := func(s string) {
		for mark, f := range marking() {
			front, name := cut(s)
			want, wantError := front+mark+name, api.OK
			if !isPath(s) || len(want) > 100 {
				want, wantError = "", api.ErrPath
			}
			got, e := f(s)
			if got != want || e != wantError {
				t.Errorf("P7.1: %s and %q: %q, error %d instead of %q, error %d", mark, s, got, e, want, wantError)
			}
			if e == api.OK && path.Kind(got) != kinds[mark] {
				t.Errorf("P7.1: %s and %q: Kind(%q): %d", mark, s, got, path.Kind(got))
			}
		}
	}
	for _, n := range []int{93, 94, 95, 96, 97, 98, 99, 100, 101, 195, 196} {
		check(strings.Repeat("a", n))
		check("b/" + strings.Repeat("a", n-2))
		check(strings.Repeat("a", n-2) + "/b")
		check(strings.Repeat("a/", 100)[:n])
	}
	for _, s := range upTo(5, "/", "a", ".", "\xff") {
		check(s)
	}
	r := rand.New(rand.NewSource(3))
	for range 20000 {
		check(arbitrary(r))
	}
}

func TestLongestTempAndSide(t *testing.T) {
	for mark, f := range marking() {
		for n, want := range map[int]bool{94: true, 95: true, 96: false, 100: false, 101: false} {
			got, e := f("d/" + strings.Repeat("a", n-2))
			if (e == api.OK) != want || want && len(got) != n+5 || !want && (got != "" || e != api.ErrPath) {
				t.Errorf("P7.1: %s and a path of %d bytes: %q, error %d", mark, n, got, e)
			}
		}
	}
}

func TestFirstOfKnownLists(t *testing.T) {
	for _, c := range []struct {
		l             []string
		first, second string
		found         bool
	}{
		{nil, "", "", false},
		{[]string{}, "", "", false},
		{[]string{"a"}, "", "", false},
		{[]string{"a", "b"}, "", "", false},
		{[]string{"x", "xx", "x.y", "y/x", "X"}, "", "", false},
		{[]string{"a/b", "a/c", "a/bc", "b"}, "", "", false},
		{[]string{"a", "a"}, "a", "a", true},
		{[]string{"a", "a/b"}, "a", "a/b", true},
		{[]string{"a/b", "a"}, "a/b", "a", true},
		{[]string{"b", "a", "c", "a"}, "a", "a", true},
		// The second one is the earliest, though the pair x and x begins earlier.
		{[]string{"x", "a/b", "c", "a", "x"}, "a/b", "a", true},
		{[]string{"x", "y", "y/z", "x/z"}, "y", "y/z", true},
		// Of several first ones, it is the earliest.
		{[]string{"a/c", "a/b", "a"}, "a/c", "a", true},
		{[]string{"c", "a/b/c", "a/d", "a"}, "a/b/c", "a", true},
		{[]string{"a/b/c", "a/b/d", "b", "a/b", "a"}, "a/b/c", "a/b", true},
		{[]string{"a", "a", "a"}, "a", "a", true},
		{[]string{"a", "a/b", "a", "a/b"}, "a", "a/b", true},
		{[]string{"a/b", "c", "c", "a", "a/b"}, "c", "c", true},
	} {
		first, second, found := path.First(c.l)
		if first != c.first || second != c.second || found != c.found {
			t.Errorf("P7.1: First(%q): %q, %q, %v", c.l, first, second, found)
		}
	}
}

// TestFirstOfAnyLists: against all pairs in their order.
func TestFirstOfAnyLists(t *testing.T) {
	firstOf := func(l []string) (string, string, bool) {
		for second := range l {
			for first := range second {
				if l[first] == l[second] || clashing(l[first], l[second]) {
					return l[first], l[second], true
				}
			}
		}
		return "", "", false
	}
	check := func(l []string) {
		a, b, found := path.First(l)
		if x, y, want := firstOf(l); a != x || b != y || found != want {
			t.Errorf("P7.1: First(%q): %q, %q, %v instead of %q, %q, %v", l, a, b, found, x, y, want)
		}
	}
	r := rand.New(rand.NewSource(4))
	paths := slices.DeleteFunc(upTo(5, "a", "b", "/"), func(s string) bool { return !isPath(s) })
	for range 30000 {
		l := make([]string, r.Intn(12))
		for i := range l {
			l[i] = paths[r.Intn(len(paths))]
		}
		check(l)
	}
	for range 10000 {
		l := make([]string, r.Intn(8))
		for i := range l {
			l[i] = arbitrary(r)
		}
		check(l)
	}
	var many []string
	for i := range 1000 {
		many = append(many, fmt.Sprintf("d%d/x", i))
	}
	check(many)
	check(append(many, "d999"))
}

// TestFirstDoesNotModify: neither its list nor what is behind it.
func TestFirstDoesNotModify(t *testing.T) {
	for _, n := range []int{0, 1, 2, 3, 5, 7} {
		whole := []string{"z", "b/c", "a", "y", "b", "a", "x/x", "x"}
		was := slices.Clone(whole)
		first, second, found := path.First(whole[:n])
		if !slices.Equal(whole, was) {
			t.Errorf("R6: First of %d: %q becomes %q", n, was, whole)
		}
		for i := range whole {
			whole[i] = "other"
		}
		a, b, again := path.First(was[:n])
		if a != first || b != second || again != found {
			t.Errorf("R8: First of %d: %q, %q, %v, and %q, %q, %v", n, first, second, found, a, b, again)
		}
	}
}

// TestNoResultDependsOnOtherCalls: all functions, called in another order.
func TestNoResultDependsOnOtherCalls(t *testing.T) {
	r := rand.New(rand.NewSource(5))
	strs := make([]string, 300)
	for i := range strs {
		strs[i] = arbitrary(r)
	}
	all := func(s string) string {
		a, e := path.Temp(s)
		b, f := path.Side(s)
		c, g := path.Copy(s, len(s)-1, strings.Repeat("0123456789abcdef", 4))
		d, h := path.Home(len(s)-1, s)
		x, y, z := path.First([]string{s, strs[0], strs[1], s})
		return fmt.Sprint([]any{path.Good(s), path.Kind(s), path.Dir(s), path.Base(s), path.In(s, "a"), path.Clash("a", s), a, e, b, f, c, g, d, h, x, y, z})
	}
	want := map[string]string{}
	for _, s := range strs {
		want[s] = all(s)
	}
	for _, s := range slices.Backward(strs) {
		if got := all(s); got != want[s] {
			t.Errorf("R8: %q: %s, then %s", s, want[s], got)
		}
	}
}

// TestGreatArguments: nothing is slow or panics.
func TestGreatArguments(t *testing.T) {
	for _, s := range []string{strings.Repeat("a", 1<<24), strings.Repeat("/", 1<<24), strings.Repeat("a/", 1<<23), strings.Repeat("\xff", 1<<24)} {
		if path.Good(s) || path.Kind(s) != none {
			t.Errorf("P7.1: %d bytes are a path", len(s))
		}
		for name, f := range copying() {
			if got, e := f(s); got != "" || e != api.ErrPath {
				t.Errorf("P7.1: %s of %d bytes: %d bytes, error %d", name, len(s), len(got), e)
			}
		}
		if got, e := path.Home(0, s); got != "" || e != api.ErrRange {
			t.Errorf("P7.1: Home of %d bytes: %d bytes, error %d", len(s), len(got), e)
		}
		if !path.In(s+"/a", s) || path.In(s, s) || !path.Clash(s, s+"/a") {
			t.Errorf("P7.1: In, Clash of %d bytes", len(s))
		}
	}
}

// copying are the functions that refuse what is not a path.
func copying() map[string]func(s string) (string, api.Errno) {
	return map[string]func(s string) (string, api.Errno){
		"Temp": path.Temp,
		"Side": path.Side,
		"Copy": func(s string) (string, api.Errno) { return path.Copy(s, math.MinInt, "") },
	}
}
