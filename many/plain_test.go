package many

import (
	"math/rand"
	"slices"
	"strings"
	"testing"

	"dragnet/api"
)

// The plain forms here look for each word at each place, as the chapter's words do; sets are held against them.

const (
	greatest = int(^uint(0) >> 1)
	least    = -greatest - 1
)

// told is what All tells of a word: the place behind it, and its number.
type told struct{ behind, word int }

func plainFold(s string) string {
	b := []byte(s)
	for k := range b {
		if b[k] >= 65 && b[k] <= 90 {
			b[k] += 32
		}
	}
	return string(b)
}

func plainStands(word string, fold bool, text string, at int) bool {
	if at < 0 || len(word) > len(text)-at {
		return false
	}
	there := text[at : at+len(word)]
	if fold {
		return plainFold(there) == plainFold(word)
	}
	return there == word
}

func plainAll(words []string, fold bool, text string) []told {
	var all []told
	for behind := range len(text) + 1 {
		for length := behind; length > 0; length-- {
			for w, word := range words {
				if len(word) == length && plainStands(word, fold, text, behind-length) {
					all = append(all, told{behind, w})
				}
			}
		}
	}
	return all
}

func plainHas(words []string, fold bool, text string) []int {
	var list []int
	for w, word := range words {
		for at := range len(text) {
			if plainStands(word, fold, text, at) {
				list = append(list, w)
				break
			}
		}
	}
	return list
}

func plainFirst(words []string, fold bool, text string, from int) (int, int, bool) {
	for at := max(from, 0); at < len(text); at++ {
		best := -1
		for w, word := range words {
			if plainStands(word, fold, text, at) && (best < 0 || len(word) > len(words[best])) {
				best = w
			}
		}
		if best >= 0 {
			return at, best, true
		}
	}
	return 0, 0, false
}

func plainStates(words []string, fold bool) int {
	beginnings := map[string]int{}
	for _, word := range words {
		if fold {
			word = plainFold(word)
		}
		for k := range len(word) + 1 {
			beginnings[word[:k]]++
		}
	}
	return len(beginnings)
}

func setOf(t *testing.T, words []string, fold bool) *Set {
	t.Helper()
	s, e, n := New(words, fold)
	if s == nil || e != api.OK || n != 0 {
		t.Fatalf("New(%.200q, %v): %v, %d", words, fold, e, n)
	}
	return s
}

func allOf(s *Set, text string) []told {
	var all []told
	for behind, w := range s.All(text) {
		all = append(all, told{behind, w})
	}
	return all
}

// check holds all that a set tells of a text against the plain forms.
func check(t *testing.T, s *Set, words []string, fold bool, text string) {
	t.Helper()
	if got, want := allOf(s, text), plainAll(words, fold, text); !slices.Equal(got, want) {
		t.Fatalf("All(%q) of %q, %v = %v, want %v", text, words, fold, got, want)
	}
	has := plainHas(words, fold, text)
	if got := s.Has(text); !slices.Equal(got, has) {
		t.Fatalf("Has(%q) of %q, %v = %v, want %v", text, words, fold, got, has)
	}
	if got := s.Any(text); got != (len(has) > 0) {
		t.Fatalf("Any(%q) of %q, %v = %v", text, words, fold, got)
	}
	for from := -1; from <= len(text)+1; from++ {
		checkFirst(t, s, words, fold, text, from)
	}
	checkFirst(t, s, words, fold, text, least)
	checkFirst(t, s, words, fold, text, greatest)
}

func checkFirst(t *testing.T, s *Set, words []string, fold bool, text string, from int) {
	t.Helper()
	at, w, found := s.First(text, from)
	if wantAt, wantW, want := plainFirst(words, fold, text, from); at != wantAt || w != wantW || found != want {
		t.Fatalf("First(%q, %d) of %q, %v = %d, %d, %v, want %d, %d, %v", text, from, words, fold, at, w, found, wantAt, wantW, want)
	}
}

// trickyBytes stand at the edges of case: the capitals and the small letters, their neighbours, both 128 higher, noughts.
const trickyBytes = "\x00\x01\n@AZ[`az{\x7f\x80\xc1\xda\xe1\xfa\xff"

func randomText(r *rand.Rand, kinds string, length int) string {
	var b strings.Builder
	for range length {
		b.WriteByte(kinds[r.Intn(len(kinds))])
	}
	return b.String()
}

// randomWords are 1 to most words that a set may have.
func randomWords(r *rand.Rand, kinds string, most, longest int, fold bool) []string {
	var words []string
	seen := map[string]int{}
	for range 1 + r.Intn(most) {
		word := randomText(r, kinds, 1+r.Intn(longest))
		key := word
		if fold {
			key = plainFold(word)
		}
		if seen[key] == 0 {
			words = append(words, word)
		}
		seen[key]++
	}
	return words
}

// textsOver are all texts of 0 to so many bytes of these kinds.
func textsOver(kinds string, most int) []string {
	list := []string{""}
	for from := 0; len(list[from]) < most; from++ {
		for k := range len(kinds) {
			list = append(list, list[from]+kinds[k:k+1])
		}
	}
	return list
}
