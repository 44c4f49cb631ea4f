package factors

import (
	"cmp"
	"maps"
	"slices"
)

// Texts are few, if they are at most so many, and none has more bytes than that.
const (
	mostTexts = 16
	mostBytes = 32
)

// words is some texts, each of them once.
type words map[string]struct{}

func emptyText() words { return words{"": {}} }

func (w words) has(text string) bool {
	_, ok := w[text]
	return ok
}

// take puts a text in, and tells whether they are few still.
func (w words) take(text string) bool {
	w[text] = struct{}{}
	return len(w) <= mostTexts && len(text) <= mostBytes
}

func (w words) takeAll(others words) bool {
	for text := range others {
		if !w.take(text) {
			return false
		}
	}
	return true
}

// joined is each text of the one with each of the other behind it, if these are few.
func joined(front, back words) (words, bool) {
	both := words{}
	for a := range front {
		for b := range back {
			if !both.take(a + b) {
				return nil, false
			}
		}
	}
	return both, true
}

// reduced is some words, none of them empty, without those in which another one of them stands.
func reduced(all words) words {
	left := maps.Clone(all)
	for word := range all {
		if all.standWithin(word) {
			delete(left, word)
		}
	}
	return left
}

// standWithin: does another one of them stand in a word? As words are short, and there may be thousands of them, the word's pieces are looked up, not each other word.
func (w words) standWithin(word string) bool {
	for from := range len(word) {
		for to := from + 1; to <= len(word); to++ {
			if to-from < len(word) && w.has(word[from:to]) {
				return true
			}
		}
	}
	return false
}

// shortest is how many bytes the shortest one of some words has, none of which is empty; 0, if there are none.
func (w words) shortest() int {
	least := 0
	for word := range w {
		if least == 0 || len(word) < least {
			least = len(word)
		}
	}
	return least
}

// better is the better one of two lists of words, of which a is named first.
func better(a, b words) words {
	if cmp.Or(cmp.Compare(b.shortest(), a.shortest()), cmp.Compare(len(a), len(b))) > 0 {
		return b
	}
	return a
}

// laidOut is all of them, as they rise.
func (w words) laidOut() []string { return slices.Sorted(maps.Keys(w)) }
