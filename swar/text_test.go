package swar

import (
	"cmp"
	"slices"
	"strings"
	"testing"
)

func TestFold(t *testing.T) { // 1.8
	for _, c := range []struct{ s, want string }{
		{"", ""}, {"A-Z", "a-z"}, {"@[`{", "@[`{"}, {"\xc1\xda", "\xc1\xda"}, {"ABCDEFGHIJ", "abcdefghij"}, {"Ä", "Ä"},
	} {
		if s := Fold(c.s); s != c.want {
			t.Errorf("Fold(%q) = %q, want %q", c.s, s, c.want)
		}
	}
	for _, s := range texts() {
		if got, want := Fold(s), plainFold(s); got != want {
			t.Fatalf("Fold(%q) = %q, want %q", s, got, want)
		}
	}
	for b := range 256 {
		for n := range 18 {
			s := strings.Repeat("A", n) + string([]byte{byte(b)})
			if got, want := Fold(s), plainFold(s); got != want {
				t.Fatalf("Fold(%q) = %q, want %q", s, got, want)
			}
		}
	}
}

func TestSameFold(t *testing.T) { // 1.8
	for _, c := range []struct {
		a, b string
		want bool
	}{
		{"", "", true}, {"aB", "Ab", true}, {"a", "ab", false}, {"a", "a\x00", false}, {"\xc1", "\xe1", false},
		{"@", "`", false}, {"[", "{", false}, {"ABCDEFGHi", "abcdefghI", true}, {"ABCDEFGHi", "abcdefghj", false},
	} {
		if SameFold(c.a, c.b) != c.want || SameFold(c.b, c.a) != c.want {
			t.Errorf("SameFold(%q, %q), or the other way round, is not %v", c.a, c.b, c.want)
		}
	}
	for a := range 256 {
		for b := range 256 {
			s, u := string([]byte{byte(a)}), string([]byte{byte(b)})
			if SameFold(s, u) != (plainSmall(byte(a)) == plainSmall(byte(b))) {
				t.Fatalf("SameFold of the bytes %d and %d = %v", a, b, SameFold(s, u))
			}
		}
	}
}

// changed is s with another byte at each of its places in turn, with its beginnings, and with more behind it.
func changed(s string) []string {
	list := []string{s, s + "\x00", s + "a", s + s}
	for p := range len(s) {
		list = append(list, s[:p], s[:p]+string([]byte{s[p] + 1})+s[p+1:], s[:p]+string([]byte{s[p] ^ 0x80})+s[p+1:])
	}
	return list
}

func TestCompare(t *testing.T) { // 1.9
	for _, c := range []struct {
		a, b string
		want int
	}{
		{"a", "ab", -1}, {"b", "ab", 1}, {"\xff", "a", 1}, {"", "", 0}, {"", "\x00", -1}, {"a\x00", "a", 1},
		{"abcdefgh1", "abcdefgh2", -1}, {"ba", "ab", 1}, {"abcdefgh", "abcdefgh", 0},
	} {
		if n := Compare(c.a, c.b); n != c.want {
			t.Errorf("Compare(%q, %q) = %d, want %d", c.a, c.b, n, c.want)
		}
	}
	for _, a := range texts() {
		for _, b := range changed(a) {
			want := cmp.Compare(a, b)
			if n, back := Compare(a, b), Compare(b, a); n != want || back != -want {
				t.Fatalf("Compare(%q, %q) = %d, the other way round %d, want %d", a, b, n, back, want)
			}
		}
	}
}

func TestCommon(t *testing.T) { // 1.9
	for _, c := range []struct {
		a, b string
		want int
	}{
		{"abc", "abd", 2}, {"", "abc", 0}, {"abc", "abc\x00", 3}, {"x", "y", 0}, {"0123456789", "0123456789ab", 10}, {"A", "a", 0},
	} {
		if n := Common(c.a, c.b); n != c.want {
			t.Errorf("Common(%q, %q) = %d, want %d", c.a, c.b, n, c.want)
		}
	}
	for _, a := range texts() {
		for _, b := range changed(a) {
			if n, want := Common(a, b), plainCommon(a, b); n != want || Common(b, a) != want {
				t.Fatalf("Common(%q, %q) = %d, the other way round %d, want %d", a, b, n, Common(b, a), want)
			}
		}
	}
}

type placed struct {
	at   int
	line string
}

func linesOf(s string) []placed {
	var list []placed
	for at, line := range Lines(s) {
		list = append(list, placed{at, line})
	}
	return list
}

func TestLines(t *testing.T) { // 1.10
	for _, c := range []struct {
		s    string
		want []placed
	}{
		{"", nil}, {"x", []placed{{0, "x"}}}, {"x\n", []placed{{0, "x"}}}, {"\n", []placed{{0, ""}}},
		{"x\n\ny", []placed{{0, "x"}, {2, ""}, {3, "y"}}}, {"\n\n", []placed{{0, ""}, {1, ""}}},
		{"x\r\ny\x00z", []placed{{0, "x\r"}, {3, "y\x00z"}}},
		{"a longer line\nand one more\n", []placed{{0, "a longer line"}, {14, "and one more"}}},
	} {
		if got := linesOf(c.s); !slices.Equal(got, c.want) {
			t.Errorf("Lines(%q) = %+v, want %+v", c.s, got, c.want)
		}
	}
	for _, s := range texts() {
		var want []placed
		at := 0
		for _, line := range strings.Split(strings.TrimSuffix(s, "\n"), "\n") {
			if s != "" {
				want = append(want, placed{at, line})
			}
			at += len(line) + 1
		}
		if got := linesOf(s); !slices.Equal(got, want) {
			t.Fatalf("Lines(%q) = %+v, want %+v", s, got, want)
		}
	}
}

func TestLinesLeftEarlyAndGoneOverAgain(t *testing.T) { // 1.10, P3
	lines := Lines("x\ny\nz")
	for at := range lines {
		if at == 2 {
			break
		}
	}
	var order []int
	for outer := range lines {
		for inner := range lines {
			order = append(order, outer*10+inner)
		}
	}
	if want := []int{0, 2, 4, 20, 22, 24, 40, 42, 44}; !slices.Equal(order, want) {
		t.Errorf("Lines gone over within itself: %v, want %v", order, want)
	}
}

func TestWhatFollowsOfTexts(t *testing.T) { // 1.11
	list := texts()
	for i, a := range list {
		other := list[(i*3+1)%len(list)]
		for _, b := range append(changed(a), strings.ToUpper(a), other) {
			if SameFold(a, b) != (Compare(Fold(a), Fold(b)) == 0) {
				t.Fatalf("SameFold(%q, %q) = %v, and Compare of Fold of both = %d", a, b, SameFold(a, b), Compare(Fold(a), Fold(b)))
			}
		}
		var joined strings.Builder
		for _, line := range Lines(a) {
			joined.WriteString(line + "\n")
		}
		if all := joined.String(); all != a && all != a+"\n" {
			t.Fatalf("the lines of %q, a feed behind each: %q", a, all)
		}
	}
}
