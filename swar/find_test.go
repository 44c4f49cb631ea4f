package swar

import (
	"math/rand"
	"slices"
	"strings"
	"testing"
)

// wantedBytes are those that are looked for in the texts: such as stand there, 0 (as the noughts beyond the ends are), and some that do not.
func wantedBytes() []byte { return []byte{0, 'a', 'b', '\n', 0x80, 0xff, 'q'} }

func TestIndex(t *testing.T) { // 1.5
	for _, c := range []struct{ from, want int }{{0, 1}, {2, 3}, {-5, 1}, {5, 5}, {6, -1}, {greatest, -1}, {least, 1}} {
		if p := Index("banana", 'a', c.from); p != c.want {
			t.Errorf("Index(banana, a, %d) = %d, want %d", c.from, p, c.want)
		}
	}
	for _, s := range texts() {
		for _, from := range placesOf(s) {
			for _, b := range wantedBytes() {
				if p, want := Index(s, b, from), plainIndexOf(s, from, b); p != want {
					t.Fatalf("Index(%q, %d, %d) = %d, want %d", s, b, from, p, want)
				}
			}
		}
	}
}

func TestLast(t *testing.T) { // 1.5
	for _, c := range []struct{ ahead, want int }{{5, 3}, {6, 5}, {99, 5}, {1, -1}, {0, -1}, {-1, -1}, {greatest, 5}, {least, -1}} {
		if p := Last("banana", 'a', c.ahead); p != c.want {
			t.Errorf("Last(banana, a, %d) = %d, want %d", c.ahead, p, c.want)
		}
	}
	for _, s := range texts() {
		for _, ahead := range placesOf(s) {
			for _, b := range wantedBytes() {
				if p, want := Last(s, b, ahead), plainLast(s, b, ahead); p != want {
					t.Fatalf("Last(%q, %d, %d) = %d, want %d", s, b, ahead, p, want)
				}
			}
		}
	}
}

func TestIndexOf(t *testing.T) { // 1.5
	if p := IndexOf("banana", 1, 'n', 'b'); p != 2 {
		t.Errorf("IndexOf(banana, 1, n, b) = %d", p)
	}
	if p := IndexOf("banana", 0); p != -1 {
		t.Errorf("IndexOf of no bytes = %d", p)
	}
	if p := IndexOf("", 0, 0); p != -1 {
		t.Errorf("IndexOf of 0 in nothing = %d", p)
	}
	sets := [][]byte{nil, {0}, {'a'}, {'a', 'a'}, {'b', 0}, {0xff, 0x80, 'Z'}, {0x3f, 0x40, 0x7f, 0x80, 0xbf, 0xc0}, {'q', 1}}
	for _, s := range texts() {
		for _, from := range placesOf(s) {
			for _, set := range sets {
				if p, want := IndexOf(s, from, set...), plainIndexOf(s, from, set...); p != want {
					t.Fatalf("IndexOf(%q, %d, %v) = %d, want %d", s, from, set, p, want)
				}
			}
		}
	}
}

func TestIndexOfEachByte(t *testing.T) { // 1.5
	all := make([]byte, 256)
	for b := range all {
		all[b] = byte(b)
	}
	for b := range all {
		if p := IndexOf(string(all), 0, byte(b)); p != b {
			t.Errorf("IndexOf of the byte %d = %d", b, p)
		}
		others := slices.Delete(slices.Clone(all), b, b+1)
		if p := IndexOf(strings.Repeat(string(all[b:b+1]), 20), 0, others...); p != -1 {
			t.Errorf("IndexOf of all bytes but %d, where it alone stands = %d", b, p)
		}
	}
}

func TestIndexOfLeavesItsSet(t *testing.T) { // P3
	room := []byte("nbxyz")
	IndexOf("banana", 0, room[:2]...)
	if string(room) != "nbxyz" {
		t.Errorf("IndexOf wrote into its set: %q", room)
	}
}

func TestCount(t *testing.T) { // 1.6
	if n := Count("banana", 'a'); n != 3 {
		t.Errorf("Count(banana, a) = %d", n)
	}
	if n := Count("", 0); n != 0 {
		t.Errorf("Count of 0 in nothing = %d", n)
	}
	for _, s := range texts() {
		for _, b := range wantedBytes() {
			if n, want := Count(s, b), plainCount(s, b); n != want {
				t.Fatalf("Count(%q, %d) = %d, want %d", s, b, n, want)
			}
		}
	}
	if n := Count(strings.Repeat("ab\x00", 5000), 0); n != 5000 {
		t.Errorf("Count in a long text = %d", n)
	}
}

func TestPair(t *testing.T) { // 1.7
	for _, c := range []struct {
		s           string
		first, last byte
		gap, from   int
		want        int
	}{
		{"abcabd", 'a', 'd', 2, 0, 3}, {"abcabd", 'a', 'd', 2, 4, -1}, {"abcabd", 'a', 'd', -1, 0, -1},
		{"aa", 'a', 'a', 0, 1, 1}, {"aa", 'a', 'a', 1, -9, 0}, {"aa", 'a', 'a', 2, 0, -1}, {"", 0, 0, 0, 0, -1},
		{"ab", 'a', 0, 2, 0, -1}, {"aa", 'a', 'a', greatest, 1, -1}, {"aa", 'a', 'a', greatest, greatest, -1},
		{"ba", 'a', 'b', least, least, -1}, {"ba", 'a', 'b', -1, 1, -1},
	} {
		if p := Pair(c.s, c.first, c.last, c.gap, c.from); p != c.want {
			t.Errorf("Pair(%q, %d, %d, %d, %d) = %d, want %d", c.s, c.first, c.last, c.gap, c.from, p, c.want)
		}
	}
}

func TestPairAgainstPlain(t *testing.T) { // 1.7
	pairs := [][2]byte{{'a', 'b'}, {'a', 'a'}, {0, 'a'}, {'a', 0}, {0, 0}, {'a', 'q'}}
	for _, s := range texts() {
		for _, gap := range []int{least, -1, 0, 1, 2, 7, 8, 9, 15, len(s) - 1, len(s), greatest} {
			for _, from := range placesOf(s) {
				for _, c := range pairs {
					p, want := Pair(s, c[0], c[1], gap, from), plainPair(s, c[0], c[1], gap, from)
					if p != want {
						t.Fatalf("Pair(%q, %d, %d, %d, %d) = %d, want %d", s, c[0], c[1], gap, from, p, want)
					}
				}
			}
		}
	}
}

func TestFindInLongTexts(t *testing.T) { // 1.5, 1.7
	r := rand.New(rand.NewSource(3))
	for range 200 {
		n := 1000 + r.Intn(20)
		at, gap := r.Intn(n-30), r.Intn(30)
		text := []byte(strings.Repeat("x", n))
		text[at], text[at+gap] = 'y', 'y'
		s := string(text)
		if p := Index(s, 'y', 0); p != at {
			t.Fatalf("Index = %d, want %d", p, at)
		}
		if p := Last(s, 'y', n); p != at+gap {
			t.Fatalf("Last = %d, want %d", p, at+gap)
		}
		if p := IndexOf(s, 0, 'z', 'y'); p != at {
			t.Fatalf("IndexOf = %d, want %d", p, at)
		}
		if p := Pair(s, 'y', 'y', gap, 0); p != at {
			t.Fatalf("Pair = %d, want %d", p, at)
		}
	}
}

func TestWhatFollowsOfPlaces(t *testing.T) { // 1.11
	for _, s := range texts() {
		for _, b := range wantedBytes() {
			if (Last(s, b, len(s)) < 0) != (Index(s, b, 0) < 0) {
				t.Fatalf("of %d in %q: Last = %d, Index = %d", b, s, Last(s, b, len(s)), Index(s, b, 0))
			}
			for p := range len(s) {
				if b == 0 && p+8 > len(s) {
					continue
				}
				far := Index(s, b, p) - p
				if far < 0 || far > 8 {
					far = 8
				}
				if k := First(Equal(Load(s, p), Spread(b))); k != far {
					t.Fatalf("of %d in %q from %d on: First = %d, want %d", b, s, p, k, far)
				}
			}
		}
	}
}
