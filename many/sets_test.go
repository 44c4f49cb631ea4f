package many

import (
	"math/rand"
	"slices"
	"strings"
	"testing"
)

// TestAllShortTexts has every set of one or two short words, and every short text.
func TestAllShortTexts(t *testing.T) { // 7.2 to 7.5
	for _, kinds := range []string{"ab", "aA", "[{", "\x00\xff"} {
		texts := textsOver(kinds, 5)
		words := textsOver(kinds, 4)[1:]
		for _, one := range words {
			for _, two := range words {
				for _, fold := range []bool{false, true} {
					set := []string{one, two}
					if one == two || fold && plainFold(one) == plainFold(two) {
						set = set[:1]
					}
					s := setOf(t, set, fold)
					if n, want := s.States(), plainStates(set, fold); n != want {
						t.Fatalf("States of %q, %v = %d, want %d", set, fold, n, want)
					}
					for _, text := range texts {
						check(t, s, set, fold, text)
					}
				}
			}
		}
	}
}

func TestRandomSets(t *testing.T) { // 7.2 to 7.5
	r := rand.New(rand.NewSource(71))
	for _, kinds := range []string{"ab", "aAbB", "abcdE", trickyBytes} {
		for range 600 {
			fold := r.Intn(2) == 0
			words := randomWords(r, kinds, 2+r.Intn(12), 1+r.Intn(7), fold)
			s := setOf(t, words, fold)
			if n, want := s.States(), plainStates(words, fold); n != want {
				t.Fatalf("States of %q, %v = %d, want %d", words, fold, n, want)
			}
			for range 8 {
				text := randomText(r, kinds, r.Intn(20))
				if r.Intn(2) == 0 {
					text += words[r.Intn(len(words))] + randomText(r, kinds, r.Intn(4))
				}
				check(t, s, words, fold, text)
			}
		}
	}
}

func TestEachByte(t *testing.T) { // 7.3 to 7.5: of each byte alone, and of each at a place within a word
	var all strings.Builder
	for b := range 256 {
		all.WriteByte(byte(b))
	}
	for b := range 256 {
		one := string([]byte{byte(b)})
		for _, fold := range []bool{false, true} {
			words := []string{one, "x" + one + "y"}
			s := setOf(t, words, fold)
			if got, want := allOf(s, all.String()), plainAll(words, fold, all.String()); !slices.Equal(got, want) {
				t.Fatalf("All of all bytes, of %q, %v = %v, want %v", words, fold, got, want)
			}
			for other := range 256 {
				check(t, s, words, fold, "x"+string([]byte{byte(other)})+"y")
			}
		}
	}
}

// mostWords are as many words as there may be, as long as they may be, of which no two begin alike.
func mostWords() []string {
	var words []string
	for k := range 64 {
		words = append(words, string([]byte{byte(128 + k)})+strings.Repeat("x", 255))
	}
	return words
}

func TestGreatestSet(t *testing.T) { // 7.2 to 7.5
	words := mostWords()
	for _, fold := range []bool{false, true} {
		s := setOf(t, words, fold)
		if n := s.States(); n != 64*256+1 {
			t.Errorf("States = %d", n)
		}
		text := strings.Join(words, "xx")
		if has := s.Has(text); len(has) != 64 || has[0] != 0 || has[63] != 63 {
			t.Errorf("Has = %v", has)
		}
		count := 0
		for behind, w := range s.All(text) {
			if w != count || behind != 258*w+256 {
				t.Errorf("All tells %d and %d", behind, w)
			}
			count++
		}
		if count != 64 {
			t.Errorf("All tells %d words", count)
		}
		if at, w, found := s.First(text, 258*63); at != 258*63 || w != 63 || !found {
			t.Errorf("First of the last one = %d, %d, %v", at, w, found)
		}
		if s.Any(text[1:256]) || s.Any(words[63][:255]) {
			t.Errorf("Any of words that are not whole")
		}
	}
}

// nested are as many words as there may be, all of one kind of byte, of the lengths that end with the longest.
func nested(longest int) []string {
	var words []string
	for k := range 64 {
		words = append(words, strings.Repeat("a", longest-k))
	}
	return words
}

func TestNestedWords(t *testing.T) { // 7.2 to 7.5
	r := rand.New(rand.NewSource(72))
	for _, longest := range []int{64, 256} {
		words := nested(longest)
		r.Shuffle(len(words), func(i, j int) { words[i], words[j] = words[j], words[i] })
		s := setOf(t, words, true)
		if n := s.States(); n != longest+1 {
			t.Errorf("States = %d, want %d", n, longest+1)
		}
		check(t, s, words, true, strings.Repeat("aA", longest/2)+"x"+strings.Repeat("a", longest-30))
	}
}

func TestLongTexts(t *testing.T) { // 7.3 to 7.6
	r := rand.New(rand.NewSource(73))
	for _, fold := range []bool{false, true} {
		words := randomWords(r, "abAB", 64, 9, fold)
		s := setOf(t, words, fold)
		text := randomText(r, "abAB-", 5000)
		var all, want []told
		all = allOf(s, text)
		for behind := range len(text) + 1 {
			ahead := max(behind-9, 0)
			for _, x := range plainAll(words, fold, text[ahead:behind]) {
				if ahead+x.behind == behind {
					want = append(want, told{behind, x.word})
				}
			}
		}
		if !slices.Equal(all, want) {
			t.Errorf("All of a long text tells %d, want %d", len(all), len(want))
		}
		for from := 0; from < len(text); from += 97 {
			checkFirst(t, s, words, fold, text, from)
		}
	}
}

func TestWhatFollows(t *testing.T) { // 7.6
	r := rand.New(rand.NewSource(74))
	for range 500 {
		fold := r.Intn(2) == 0
		words := randomWords(r, "abAB[{", 20, 4, fold)
		s := setOf(t, words, fold)
		text := randomText(r, "abAB[{", r.Intn(60))
		all := allOf(s, text)
		counts := make([]int, len(words))
		for _, x := range all {
			counts[x.word]++
		}
		var has []int
		for w, count := range counts {
			places := 0
			for at := range len(text) {
				if plainStands(words[w], fold, text, at) {
					places++
				}
			}
			if count != places {
				t.Fatalf("All(%q) tells %q %d times, it stands at %d places", text, words[w], count, places)
			}
			if count > 0 {
				has = append(has, w)
			}
		}
		if got := s.Has(text); !slices.Equal(got, has) {
			t.Fatalf("Has(%q) of %q, %v = %v, All tells %v", text, words, fold, got, has)
		}
		if fold {
			checkFolded(t, s, text)
		}
		checkOrder(t, r, words, fold, text, all)
	}
}

// checkFolded: a set that folds tells the same of a text and of Fold of it.
func checkFolded(t *testing.T, s *Set, text string) {
	t.Helper()
	folded := plainFold(text)
	if !slices.Equal(allOf(s, text), allOf(s, folded)) || !slices.Equal(s.Has(text), s.Has(folded)) || s.Any(text) != s.Any(folded) {
		t.Fatalf("of %q and of %q a set that folds tells other words", text, folded)
	}
	for from := range len(text) + 1 {
		at, w, found := s.First(text, from)
		if atFolded, wFolded, same := s.First(folded, from); at != atFolded || w != wFolded || found != same {
			t.Fatalf("of %q and of %q from %d on First tells other words", text, folded, from)
		}
	}
}

// checkOrder: the words in another order are told at the same places.
func checkOrder(t *testing.T, r *rand.Rand, words []string, fold bool, text string, all []told) {
	t.Helper()
	order := r.Perm(len(words))
	other := make([]string, len(words))
	for w, to := range order {
		other[to] = words[w]
	}
	var want []told
	for _, x := range all {
		want = append(want, told{x.behind, order[x.word]})
	}
	if got := allOf(setOf(t, other, fold), text); !slices.Equal(got, want) {
		t.Fatalf("All(%q) of %q, %v = %v, want %v", text, other, fold, got, want)
	}
}

func TestSetForgetsTexts(t *testing.T) { // 7.6, P4
	words := []string{"abab", "ba", "b"}
	s := setOf(t, words, false)
	for range 3 {
		check(t, s, words, false, "aba")
		check(t, s, words, false, "b")
		check(t, s, words, false, "xxababab")
		for range s.All("aba") {
			break
		}
		if s.States() != 7 {
			t.Errorf("States = %d", s.States())
		}
	}
}
