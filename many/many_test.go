package many

import (
	"slices"
	"strconv"
	"strings"
	"testing"

	"dragnet/api"
)

// numbered are so many words that are not alike.
func numbered(count int) []string {
	var words []string
	for k := range count {
		words = append(words, "w"+strconv.Itoa(k))
	}
	return words
}

func TestNewRefuses(t *testing.T) { // 7.1
	long, huge := strings.Repeat("x", 257), strings.Repeat("x", 1<<20)
	for _, c := range []struct {
		words []string
		fold  bool
		want  int
	}{
		{nil, false, 0}, {[]string{}, true, 0}, {numbered(65), false, 0}, {numbered(65), true, 0}, {numbered(5000), false, 0},
		{[]string{""}, false, 0}, {[]string{"a", ""}, false, 1}, {[]string{"a", "b", "", ""}, true, 2},
		{[]string{long}, false, 0}, {[]string{"a", long}, true, 1}, {[]string{"y", "z", long, ""}, true, 2}, {[]string{"a", huge, huge}, false, 1},
		{[]string{"a", "a"}, false, 1}, {[]string{"a", "b", "a"}, false, 2}, {[]string{"a", "b", "c", "b", "", long}, true, 3},
		{[]string{"a", "A"}, true, 1}, {[]string{"aZ-", "az", "Az-"}, true, 2}, {[]string{"a", "A", "A"}, false, 2},
		{[]string{"", "", ""}, false, 0}, {[]string{"a", "a", ""}, false, 1}, {[]string{"a", "", "a"}, false, 1},
		{append(numbered(63), "W0"), true, 63}, {append(numbered(63), "w62"), false, 63}, {append(numbered(63), ""), false, 63},
	} {
		if s, e, n := New(c.words, c.fold); s != nil || e != api.ErrWords || n != c.want {
			t.Errorf("New(%.200q, %v): %v, %d, want ErrWords, %d", c.words, c.fold, e, n, c.want)
		}
	}
}

func TestNewCountsAhead(t *testing.T) { // 7.1, P2: too many words are told ahead of a wrong one
	if s, e, n := New(append([]string{"a", "a", ""}, numbered(62)...), false); s != nil || e != api.ErrWords || n != 0 {
		t.Errorf("New of 65 words, the second wrong: %v, %d", e, n)
	}
}

func TestNewTakes(t *testing.T) { // 7.1
	most := strings.Repeat("x", 256)
	for _, c := range []struct {
		words []string
		fold  bool
	}{
		{[]string{"a"}, false}, {[]string{"a", "A"}, false}, {[]string{most}, true}, {[]string{most, most[:255]}, false}, {numbered(64), false}, {numbered(64), true},
		{[]string{"\x00", "\x00\x00", "\n", " ", "\xff"}, true}, {[]string{"@", "`", "[", "{", "\xc1", "\xe1"}, true},
	} {
		s := setOf(t, c.words, c.fold)
		for w, word := range c.words {
			if at, got, found := s.First(word, 0); at != 0 || got != w || !found {
				t.Errorf("First of the word %d: %d, %d, %v", w, at, got, found)
			}
		}
	}
}

func TestNewLeavesItsWords(t *testing.T) { // P3
	room := []string{"He", "SHE", "beyond"}
	s := setOf(t, room[:2], true)
	if !slices.Equal(room, []string{"He", "SHE", "beyond"}) {
		t.Errorf("New wrote into its words: %q", room)
	}
	room[0], room[1] = "x", "y"
	if has := s.Has("xyshe"); !slices.Equal(has, []int{0, 1}) {
		t.Errorf("behind another word in the list Has = %v", has)
	}
}

func TestStates(t *testing.T) { // 7.2
	for _, c := range []struct {
		words []string
		fold  bool
		want  int
	}{
		{[]string{"he", "she", "his", "hers"}, false, 10}, {[]string{"he", "she", "his", "hers"}, true, 10},
		{[]string{"a"}, false, 2}, {[]string{"ab", "Ab"}, false, 5}, {[]string{"ab", "Ac"}, false, 5}, {[]string{"ab", "Ac"}, true, 4},
		{[]string{"abc", "ab", "a"}, false, 4}, {[]string{"abc", "bc", "c"}, false, 7}, {[]string{"[a", "{a"}, true, 5}, {[]string{"\xc1", "\xe1"}, true, 3},
		{[]string{strings.Repeat("x", 256)}, false, 257}, {[]string{"AAA", "aab"}, true, 5},
	} {
		if n := setOf(t, c.words, c.fold).States(); n != c.want {
			t.Errorf("States of %.200q, %v = %d, want %d", c.words, c.fold, n, c.want)
		}
	}
}

func TestHasAndAny(t *testing.T) { // 7.3
	words := []string{"he", "she", "his", "hers"}
	for _, c := range []struct {
		words []string
		fold  bool
		text  string
		want  []int
	}{
		{words, false, "ushers", []int{0, 1, 3}}, {words, false, "sheep", []int{0, 1}}, {words, false, "HE", nil}, {words, true, "HE", []int{0}},
		{words, false, "", nil}, {words, false, "h", nil}, {words, false, "hershis", []int{0, 2, 3}}, {words, false, "hershe his", []int{0, 1, 2, 3}},
		{words, true, "uSHERSuhIs", []int{0, 1, 2, 3}}, {words, false, "hi hi h e s", nil}, {words, false, "he\x00", []int{0}},
		{[]string{"\x00"}, false, "a", nil}, {[]string{"\x00"}, false, "a\x00", []int{0}}, {[]string{"\xc1", "@"}, true, "\xe1`", nil},
		{[]string{"z", "y", "x"}, false, "xyz", []int{0, 1, 2}}, {[]string{"z", "y", "x"}, false, "xzx", []int{0, 2}},
	} {
		s := setOf(t, c.words, c.fold)
		if has := s.Has(c.text); !slices.Equal(has, c.want) {
			t.Errorf("Has(%q) of %q, %v = %v, want %v", c.text, c.words, c.fold, has, c.want)
		}
		if any := s.Any(c.text); any != (len(c.want) > 0) {
			t.Errorf("Any(%q) of %q, %v = %v", c.text, c.words, c.fold, any)
		}
	}
}

func TestHasIsNewMemory(t *testing.T) { // P3
	s := setOf(t, []string{"a", "b"}, false)
	one, two := s.Has("ab"), s.Has("ab")
	one[0] = 9
	_ = append(one[:1], 9)
	if !slices.Equal(two, []int{0, 1}) || !slices.Equal(s.Has("ab"), []int{0, 1}) {
		t.Errorf("two answers share memory: %v", two)
	}
}

func TestAll(t *testing.T) { // 7.4
	for _, c := range []struct {
		words []string
		fold  bool
		text  string
		want  []told
	}{
		{[]string{"he", "she", "his", "hers"}, false, "ushers", []told{{4, 1}, {4, 0}, {6, 3}}},
		{[]string{"aa", "a"}, false, "aaa", []told{{1, 1}, {2, 0}, {2, 1}, {3, 0}, {3, 1}}},
		{[]string{"a", "aa"}, false, "aaa", []told{{1, 0}, {2, 1}, {2, 0}, {3, 1}, {3, 0}}},
		{[]string{"c", "bc", "abc", "bcd"}, false, "abcd", []told{{3, 2}, {3, 1}, {3, 0}, {4, 3}}},
		{[]string{"abcd", "c"}, false, "abcx", []told{{3, 1}}}, {[]string{"abcd", "bcx"}, false, "abcx", []told{{4, 1}}},
		{[]string{"abcde", "bcd", "cx"}, false, "abcx", []told{{4, 2}}}, {[]string{"Ab", "B"}, true, "aBAb", []told{{2, 0}, {2, 1}, {4, 0}, {4, 1}}},
		{[]string{"a", "A"}, false, "aA", []told{{1, 0}, {2, 1}}}, {[]string{"x"}, false, "", nil}, {[]string{"xy"}, true, "x", nil},
	} {
		if all := allOf(setOf(t, c.words, c.fold), c.text); !slices.Equal(all, c.want) {
			t.Errorf("All(%q) of %q, %v = %v, want %v", c.text, c.words, c.fold, all, c.want)
		}
	}
}

func TestAllAgainAndWithinItself(t *testing.T) { // 7.4, P3
	s := setOf(t, []string{"aa", "a"}, true)
	all := s.All("aA")
	for stop := range 3 {
		count := 0
		for range all {
			if count == stop {
				break
			}
			count++
		}
		if count != stop {
			t.Errorf("left behind %d, All went over %d", stop, count)
		}
	}
	var outer, inner []told
	for behind, w := range all {
		outer = append(outer, told{behind, w})
		for again, v := range all {
			inner = append(inner, told{again, v})
		}
		if at, v, found := s.First("xaa", 0); at != 1 || v != 0 || !found || s.Any("x") || len(s.Has("a")) != 1 {
			t.Errorf("First, Any and Has within All")
		}
	}
	want := []told{{1, 1}, {2, 0}, {2, 1}}
	if !slices.Equal(outer, want) || !slices.Equal(inner, slices.Concat(want, want, want)) {
		t.Errorf("within itself All goes over %v and %v", outer, inner)
	}
}

func TestFirst(t *testing.T) { // 7.5
	words := []string{"he", "she", "his", "hers"}
	for _, c := range []struct {
		words    []string
		fold     bool
		text     string
		from     int
		at, word int
		found    bool
	}{
		{words, false, "ushers", 0, 1, 1, true}, {words, false, "ushers", 2, 2, 3, true}, {words, false, "ushers", 3, 0, 0, false},
		{words, false, "ushers", -7, 1, 1, true}, {words, false, "ushers", least, 1, 1, true}, {words, false, "ushers", 6, 0, 0, false},
		{words, false, "ushers", 7, 0, 0, false}, {words, false, "ushers", greatest, 0, 0, false}, {words, false, "", 0, 0, 0, false},
		{words, false, "he", 0, 0, 0, true}, {words, false, "xhe", 2, 0, 0, false}, {words, true, "HERS", 0, 0, 3, true}, {words, false, "HERS", 0, 0, 0, false},
		// A word that begins first ends behind one that begins later.
		{[]string{"bc", "abcd"}, false, "abcd", 0, 0, 1, true}, {[]string{"bc", "abcd"}, false, "abcx", 0, 1, 0, true}, {[]string{"bc", "abcd"}, false, "abcd", 1, 1, 0, true},
		{[]string{"c", "bcd", "abcdef"}, false, "abcdef", 0, 0, 2, true}, {[]string{"c", "bcd", "abcdef"}, false, "abcdex", 0, 1, 1, true}, {[]string{"c", "bcd", "abcdef"}, false, "abcx", 0, 2, 0, true},
		// Of those that begin at one place the longest, whatever stands between.
		{[]string{"a", "abcd", "ab"}, false, "abcd", 0, 0, 1, true}, {[]string{"a", "abcd", "ab"}, false, "abcx", 0, 0, 2, true}, {[]string{"a", "abcd", "ab"}, false, "axabcd", 0, 0, 0, true},
		{[]string{"a", "abcd", "bcde"}, false, "abcde", 0, 0, 1, true}, {[]string{"a", "abcx", "bcde"}, false, "abcde", 0, 0, 0, true},
	} {
		at, w, found := setOf(t, c.words, c.fold).First(c.text, c.from)
		if at != c.at || w != c.word || found != c.found {
			t.Errorf("First(%q, %d) of %q, %v = %d, %d, %v, want %d, %d, %v", c.text, c.from, c.words, c.fold, at, w, found, c.at, c.word, c.found)
		}
	}
}
