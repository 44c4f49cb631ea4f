package many

import "dragnet/swar"

const (
	root = 0  // the number of the empty beginning
	none = -1 // instead of a word's number
)

// node is a text with which a word begins. Numbers of nodes and words have 16 bits, to keep the arrays small: there are at most MaxWords times MaxPattern beginnings and the empty one.
type node struct {
	// next is, by each byte, the longest beginning with which this one and that byte end. Until join it has those alone that are one byte longer; root: there is none.
	next   [256]int16
	length int
	word   int16 // the longest one with which it ends; until join: the word that it is
}

// word is what is known of one whose bytes stand in the nodes.
type word struct {
	length  int
	shorter int16 // the longest other one with which it ends
}

// build makes a set of words that are right.
func build(words []string, fold bool) *Set {
	s := &Set{nodes: []node{{word: none}}}
	for _, text := range words {
		if fold {
			text = swar.Fold(text)
		}
		s.add(text)
	}
	s.join()
	if fold {
		s.takeCapitals()
	}
	return s
}

// add takes in a word, with its beginnings.
func (s *Set) add(text string) {
	at := int16(root)
	for k := range len(text) {
		next := s.nodes[at].next[text[k]]
		if next == root {
			next = int16(len(s.nodes))
			s.nodes[at].next[text[k]] = next
			s.nodes = append(s.nodes, node{length: k + 1, word: none})
		}
		at = next
	}
	s.nodes[at].word = int16(len(s.words))
	s.words = append(s.words, word{len(text), none})
}

// join says of each beginning how it goes on by every byte. The shorter ones come first: a longer one leans on its tail, which is the longest other beginning with which it ends.
func (s *Set) join() {
	tails := make([]int16, len(s.nodes))
	queue := []int16{root}
	for k := 0; k < len(queue); k++ {
		at := queue[k]
		for b := range s.nodes[at].next {
			tail := int16(root)
			if at != root {
				tail = s.nodes[tails[at]].next[b]
			}
			next := s.nodes[at].next[b]
			if next == root {
				s.nodes[at].next[b] = tail
				continue
			}
			tails[next] = tail
			s.inherit(next, s.nodes[tail].word)
			queue = append(queue, next)
		}
	}
}

// inherit tells a beginning the longest word with which its tail ends.
func (s *Set) inherit(at, shorter int16) {
	if w := s.nodes[at].word; w != none {
		s.words[w].shorter = shorter
		return
	}
	s.nodes[at].word = shorter
}

// takeCapitals makes each capital go where the small letter goes: so no text is folded ahead of a look.
func (s *Set) takeCapitals() {
	for at := range s.nodes {
		next := &s.nodes[at].next
		copy(next['A':'Z'+1], next['a':'z'+1])
	}
}
