package path_test

import (
	"crypto/sha256"
	"fmt"
	"math"
	"math/rand"
	"strconv"
	"strings"
	"testing"

	"darner/api"
	"darner/path"
)

// digits are the characters of the text of a digest.
const digits = "0123456789abcdef"

// sum has each of them.
const sum = digits + "fedcba9876543210" + digits + "0f1e2d3c4b5a6978"

// isSum is what the chapter calls the text of a digest, byte by byte.
func isSum(s string) bool {
	for _, b := range []byte(s) {
		if strings.IndexByte(digits, b) < 0 {
			return false
		}
	}
	return len(s) == 64
}

// homeOf returns the home, or the error, as the chapter defines them.
func homeOf(size int, sum string) (string, api.Errno) {
	if size < 0 || size > 16384 || !isSum(sum) {
		return "", api.ErrRange
	}
	return fmt.Sprintf("conflict~%d~%s", size, sum), api.OK
}

func copyOf(s string, size int, sum string) (string, api.Errno) {
	if !isPath(s) {
		return "", api.ErrPath
	}
	home, e := homeOf(size, sum)
	if e == api.OK && isPath(s+"."+home) {
		return s + "." + home, e
	}
	return home, e
}

func checkHome(t *testing.T, size int, sum string) {
	t.Helper()
	got, e := path.Home(size, sum)
	if want, wantError := homeOf(size, sum); got != want || e != wantError {
		t.Errorf("P7.1: Home(%d, %q): %q, error %d instead of %q, error %d", size, sum, got, e, want, wantError)
	}
}

func checkCopy(t *testing.T, s string, size int, sum string) {
	t.Helper()
	got, e := path.Copy(s, size, sum)
	if want, wantError := copyOf(s, size, sum); got != want || e != wantError {
		t.Errorf("P7.1: Copy(%q, %d, %q): %q, error %d instead of %q, error %d", s, size, sum, got, e, want, wantError)
	}
}

func TestKnownHomes(t *testing.T) {
	for size, want := range map[int]string{
		0: "0", 1: "1", 9: "9", 10: "10", 14: "14", 99: "99", 100: "100", 999: "999", 1000: "1000", 9999: "9999", 10000: "10000",
		16383: "16383", 16384: "16384",
	} {
		got, e := path.Home(size, sum)
		if got != "conflict~"+want+"~"+sum || e != api.OK {
			t.Errorf("P7.1: Home(%d, %q): %q, error %d", size, sum, got, e)
		}
		if path.Kind(got) != other {
			t.Errorf("P7.1: Kind(%q): %d", got, path.Kind(got))
		}
	}
	for _, size := range []int{-1, -2, -10, -16384, math.MinInt, 16385, 16386, 20000, 100000, 1 << 16, 1 << 32, 1<<32 + 5, math.MaxInt} {
		if got, e := path.Home(size, sum); got != "" || e != api.ErrRange {
			t.Errorf("P7.1: Home(%d, %q): %q, error %d", size, sum, got, e)
		}
	}
}

func TestHomesOfAllSizes(t *testing.T) {
	for size := -5; size < 16400; size++ {
		checkHome(t, size, sum)
	}
}

func TestHomesOfLengths(t *testing.T) {
	for n := range 200 {
		for _, c := range []string{"0", "9", "a", "f"} {
			text := strings.Repeat(c, n)
			if got, e := path.Home(7, text); (e == api.OK) != (n == 64) || n != 64 && (got != "" || e != api.ErrRange) {
				t.Errorf("P7.1: Home of a text of %d characters: %q, error %d", n, got, e)
			}
			checkHome(t, 7, text)
		}
	}
}

// TestHomesOfCharacters: every byte, at every place.
func TestHomesOfCharacters(t *testing.T) {
	permitted := 0
	for b := range 256 {
		for at := range len(sum) {
			text := []byte(sum)
			text[at] = byte(b)
			checkHome(t, 16384, string(text))
		}
		if _, e := path.Home(0, strings.Repeat(string([]byte{byte(b)}), 64)); e == api.OK {
			permitted++
		}
	}
	if permitted != len(digits) {
		t.Errorf("P7.1: a digest's text may have %d different characters", permitted)
	}
	// Those beside the permitted ones, and what is no byte.
	for _, c := range []string{"/", ":", "`", "g", "@", "A", "F", "G", "-", "+", " ", "\x00", "\n", "\x80", "\xff", "é", "\u0130", "\uff41", "\uff11", "\u0661", "\ufffd", "\u0161", "\u0152"} {
		for _, text := range []string{
			strings.Repeat(c, 64), strings.Repeat(c, 64)[:64], c + sum[1:], sum[1:] + c, sum[:30] + c + sum[31:],
			c + sum[len(c):], sum[len(c):] + c, sum + c, c + sum,
		} {
			if got, e := path.Home(5, text); got != "" || e != api.ErrRange {
				t.Errorf("P7.1: Home(5, %q): %q, error %d", text, got, e)
			}
		}
	}
}

func TestHomesOfOtherTexts(t *testing.T) {
	for _, text := range []string{"", "0", "0x" + sum[:62], strings.ToUpper(sum), sum + sum, sum[:32], " " + sum[1:], sum[1:] + " ", "-" + sum[1:]} {
		if got, e := path.Home(5, text); got != "" || e != api.ErrRange {
			t.Errorf("P7.1: Home(5, %q): %q, error %d", text, got, e)
		}
	}
	for i := range 200 {
		checkHome(t, i, fmt.Sprintf("%x", sha256.Sum256([]byte{byte(i)})))
	}
}

func TestKnownCopies(t *testing.T) {
	for s, want := range map[string]string{
		"a": "a.", "d/x": "d/x.", "a/b/c.txt": "a/b/c.txt.", "...": "....", "a.": "a..", ".tmp~a": ".tmp~a.", ".par~a/b": ".par~a/b.",
		strings.Repeat("a", 23): strings.Repeat("a", 23) + ".",
		// The path would have 101 bytes, and more.
		strings.Repeat("a", 24):  "",
		"d/x" + sum:              "",
		strings.Repeat("a", 100): "",
	} {
		got, e := path.Copy(s, 14, sum)
		if got != want+"conflict~14~"+sum || e != api.OK {
			t.Errorf("P7.1: Copy(%q, 14, %q): %q, error %d", s, sum, got, e)
		}
	}
}

// TestLongestCopies: for sizes of all numbers of digits, results of exactly 100
// bytes, and paths that are one byte longer.
func TestLongestCopies(t *testing.T) {
	for _, size := range []int{0, 9, 10, 99, 100, 999, 1000, 9999, 10000, 16384} {
		home := "conflict~" + strconv.Itoa(size) + "~" + sum
		longest := 100 - len(".") - len(home)
		for _, s := range []string{strings.Repeat("a", longest), "d/" + strings.Repeat("a", longest-2), strings.Repeat("a", longest-2) + "/d"} {
			if got, e := path.Copy(s, size, sum); got != s+"."+home || len(got) != 100 || e != api.OK {
				t.Errorf("P7.1: Copy(%q, %d, %q): %q, error %d", s, size, sum, got, e)
			}
			if got, e := path.Copy(s+"a", size, sum); got != home || e != api.OK {
				t.Errorf("P7.1: Copy(%q, %d, %q): %q, error %d", s+"a", size, sum, got, e)
			}
		}
		for n := range 110 {
			checkCopy(t, strings.Repeat("a", n), size, sum)
			checkCopy(t, strings.Repeat("a/", 60)[:n]+"b", size, sum)
		}
	}
}

// TestErrorsOfCopy: ErrPath is the first one, then that of Home, also for paths
// whose conflict copy is the home alone.
func TestErrorsOfCopy(t *testing.T) {
	long := strings.Repeat("a", 100)
	for _, size := range []int{-1, 0, 5, 16384, 16385, math.MinInt, math.MaxInt} {
		for _, text := range []string{"", sum, sum[1:], sum + "0", sum[1:] + "g", sum[1:] + "A"} {
			for _, s := range []string{"", ".", "..", "/", "a/", "/a", "a//b", "a/..", "a b", "ä", "\xff", long + "a"} {
				if got, e := path.Copy(s, size, text); got != "" || e != api.ErrPath {
					t.Errorf("P7.1: Copy(%q, %d, %q): %q, error %d", s, size, text, got, e)
				}
			}
			for _, s := range []string{"a", "d/x", ".tmp~a", long} {
				if got, e := path.Copy(s, size, text); (size < 0 || size > 16384 || text != sum) && (got != "" || e != api.ErrRange) {
					t.Errorf("P7.1: Copy(%q, %d, %q): %q, error %d", s, size, text, got, e)
				}
				checkCopy(t, s, size, text)
			}
		}
	}
}

func TestCopiesOfAnyStrings(t *testing.T) {
	r := rand.New(rand.NewSource(6))
	for range 20000 {
		text := []byte(sum)
		if r.Intn(4) == 0 {
			text[r.Intn(len(text))] = byte(r.Intn(256))
		}
		checkCopy(t, arbitrary(r), r.Intn(16500)-50, string(text))
	}
}
