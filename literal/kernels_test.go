package literal

import (
	"math/rand"
	"slices"
	"strings"
	"testing"
)

// check holds every kernel for a pattern against the plain forms.
func check(t *testing.T, list []*Finder, pattern string, fold bool, s string, froms []int) {
	t.Helper()
	all := plainAll(pattern, fold, s)
	count := plainCount(all, len(pattern))
	for _, f := range list {
		if got := placesOf(f, s); !slices.Equal(got, all) {
			t.Fatalf("kernel %d: All(%q) of %q, %v = %v, want %v", f.Kernel(), s, pattern, fold, got, all)
		}
		if got := f.Count(s); got != count {
			t.Fatalf("kernel %d: Count(%q) of %q, %v = %d, want %d", f.Kernel(), s, pattern, fold, got, count)
		}
		for _, from := range froms {
			if got, want := f.Find(s, from), plainFind(all, from); got != want {
				t.Fatalf("kernel %d: Find(%q, %d) of %q, %v = %d, want %d", f.Kernel(), s, from, pattern, fold, got, want)
			}
		}
	}
}

func edgesOf(s string, length int) []int {
	return []int{least, -1, 0, 1, len(s) - length - 1, len(s) - length, len(s) - length + 1, len(s) - 1, len(s), len(s) + 1, greatest - length, greatest}
}

func TestAllShortTexts(t *testing.T) { // 6.2, 6.3
	for _, kinds := range []string{"ab", "aA", "\x00a", "[{", "\xc1\xe1"} {
		texts := textsOver(kinds, 9)
		for _, pattern := range textsOver(kinds, 4)[1:] {
			for _, fold := range []bool{false, true} {
				list := finders(t, pattern, fold)
				for _, s := range texts {
					check(t, list, pattern, fold, s, []int{-1, 0, 1, 2, 3, 5, 8})
				}
			}
		}
	}
}

func TestEachPairOfBytes(t *testing.T) { // 6.2, 6.3
	var all strings.Builder
	for b := range 256 {
		all.WriteByte(byte(b))
	}
	for b := range 256 {
		for _, pattern := range []string{string([]byte{byte(b)}), string([]byte{byte(b), byte(b + 1)})} {
			for _, fold := range []bool{false, true} {
				list := finders(t, pattern, fold)
				check(t, list, pattern, fold, all.String(), []int{-1, b, b + 1})
			}
		}
	}
}

// TestPlanted has patterns of every edge of length in texts of every place in a word, whole and spoilt in one byte.
func TestPlanted(t *testing.T) { // 6.2, 6.3
	r := rand.New(rand.NewSource(61))
	for _, length := range lengths() {
		for _, kinds := range []string{"ab", "aAbB", trickyBytes} {
			pattern := randomText(r, kinds, length)
			for _, fold := range []bool{false, true} {
				list := finders(t, pattern, fold)
				for ahead := range 10 {
					hit := randomText(r, kinds, ahead) + pattern + randomText(r, kinds, r.Intn(10))
					check(t, list, pattern, fold, hit, edgesOf(hit, length))
					spoilt := []byte(hit)
					spoilt[ahead+r.Intn(length)] ^= 32
					check(t, list, pattern, fold, string(spoilt), edgesOf(hit, length))
					short := hit[:ahead+length-1]
					check(t, list, pattern, fold, short, edgesOf(short, length))
				}
			}
		}
	}
}

// TestEachByteCounts spoils each byte of a pattern in turn.
func TestEachByteCounts(t *testing.T) { // 6.2
	r := rand.New(rand.NewSource(62))
	for _, length := range lengths() {
		pattern := randomText(r, "abc", length)
		for _, fold := range []bool{false, true} {
			for _, f := range finders(t, pattern, fold) {
				for k := range length {
					spoilt := []byte(pattern)
					spoilt[k] = 'z'
					if at := f.Find(string(spoilt), 0); at != -1 {
						t.Fatalf("kernel %d: Find of %q in %q = %d", f.Kernel(), pattern, spoilt, at)
					}
				}
			}
		}
	}
}

func TestWithinOneAnother(t *testing.T) { // 6.2, 6.3
	for _, length := range lengths() {
		for _, unit := range []string{"a", "ab", "aab", "\x00", "aB"} {
			pattern := strings.Repeat(unit, length)[:length]
			for _, fold := range []bool{false, true} {
				list := finders(t, pattern, fold)
				s := strings.Repeat(unit, length+20)[:length+20]
				check(t, list, pattern, fold, s, edgesOf(s, length))
				broken := s + "-" + strings.ToUpper(s) + "-" + strings.ToLower(s)
				check(t, list, pattern, fold, broken, edgesOf(broken, length))
			}
		}
	}
}

// TestAtTheEdgesOfJumps has patterns whose last byte stands elsewhere in them too, where a jump too far would pass over a hit.
func TestAtTheEdgesOfJumps(t *testing.T) { // 6.2, 6.3
	for _, length := range lengths() {
		for k := range length {
			b := []byte(strings.Repeat("x", length))
			b[k] = 'Q'
			pattern := string(b)
			for _, fold := range []bool{false, true} {
				list := finders(t, pattern, fold)
				for _, ahead := range []string{"q", "Q", "x", "xq", "Qx", pattern[:length-1], pattern[length-1:]} {
					s := ahead + pattern + pattern
					check(t, list, pattern, fold, s, []int{0, 1, len(ahead), len(ahead) + 1})
				}
			}
		}
	}
}

func TestLongTexts(t *testing.T) { // 6.2, 6.3
	r := rand.New(rand.NewSource(63))
	for _, length := range []int{1, 2, 5, 8, 64, 65, 200, 256} {
		pattern := randomText(r, "abcdEFGH ", length)
		var b strings.Builder
		for range 40 {
			b.WriteString(randomText(r, "abcdefghEFGH ", r.Intn(300)))
			b.WriteString(pattern[:r.Intn(length+1)])
			b.WriteString(pattern)
			b.WriteString(strings.ToUpper(pattern))
		}
		for _, fold := range []bool{false, true} {
			list := finders(t, pattern, fold)
			check(t, list, pattern, fold, b.String(), []int{0, b.Len() / 2, b.Len() - length})
		}
	}
}

func TestWhatFollows(t *testing.T) { // 6.3
	r := rand.New(rand.NewSource(64))
	for _, length := range lengths() {
		for range 20 {
			pattern := randomText(r, "aAzZ[{\xc1\xe1", length)
			s := randomText(r, "aAzZ", r.Intn(30)) + strings.ToUpper(pattern) + randomText(r, "aAzZ", 3) + strings.ToLower(pattern) + pattern
			folded := finders(t, pattern, true)
			for _, plain := range finders(t, plainFold(pattern), false) {
				want := placesOf(plain, plainFold(s))
				for _, f := range folded {
					if got := placesOf(f, s); !slices.Equal(got, want) {
						t.Fatalf("kernel %d with fold tells %v of %q in %q, kernel %d without it of small letters %v", f.Kernel(), got, pattern, s, plain.Kernel(), want)
					}
					if f.Count(s) != plain.Count(plainFold(s)) {
						t.Fatalf("kernel %d with fold counts %q in %q otherwise than kernel %d without it", f.Kernel(), pattern, s, plain.Kernel())
					}
				}
			}
		}
	}
}
