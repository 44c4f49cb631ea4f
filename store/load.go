package store

import (
	"dragnet/api"
	"dragnet/block"
	"dragnet/code"
	"dragnet/record"
	"dragnet/sums"
)

const headBytes = len(magic) + words*wordBytes // without their sum

func Load(b string) (*Store, api.Errno, int) {
	s, at, right := read(b)
	if !right {
		return nil, api.ErrImage, at
	}
	return s, api.OK, 0
}

func Mend(b string) (*Store, int) {
	s, at, right := read(b)
	if s != nil && !right {
		s.generation = min(s.generation+1, mostGeneration)
	}
	return s, at
}

// read reads a saved log from the front: what is right of it (nothing, if the head is not), the place behind that, and whether it is all.
func read(b string) (*Store, int, bool) {
	r := code.Read(b)
	s, sealed, is := readHead(r)
	if !is {
		return nil, 0, false
	}
	for range sealed {
		at := r.At()
		if !s.readSealed(r) {
			return s, at, false
		}
	}
	at := r.At()
	if !s.readTail(r) {
		return s, at, false
	}
	return s, r.At(), r.Left() == 0
}

// readHead is the log before its blocks are read, and how many of these are sealed.
func readHead(r *code.Reader) (*Store, int, bool) {
	b, is := unsummed(r, headBytes)
	if !is || b[:len(magic)] != magic {
		return nil, 0, false
	}
	n := readNumbers(b[len(magic):])
	s, e, _ := New(configOf(n))
	if e != api.OK || !n.agree() {
		return nil, 0, false
	}
	s.generation = int(n[wordGeneration])
	s.open = emptied(int(n[wordNumber]), int(n[wordNext]), s.config.Level)
	return s, int(n[wordSealed]), true
}

// agree tells whether what a saved head counts may be, by what else it says.
func (n numbers) agree() bool {
	return n[wordGeneration] <= mostGeneration && n[wordNext] <= n[wordGeneration] &&
		n[wordNumber] <= n[wordGeneration] && n[wordSealed] <= n[wordBlocks]
}

// readNumbers reads bytes that are just these.
func readNumbers(b string) numbers {
	var n numbers
	r := code.Read(b)
	for word := range n {
		n[word], _ = r.Fixed(wordBytes)
	}
	return n
}

// readSealed lays the next sealed block down, if it is right.
func (s *Store) readSealed(r *code.Reader) bool {
	length, is := unsummed(r, lengthBytes)
	if !is {
		return false
	}
	image, e := r.Take(int(number(length)))
	if e != api.OK {
		return false
	}
	h, _, wrong := block.Open(image)
	if wrong != nil || !s.follows(h) {
		return false
	}
	s.sealed = append(s.sealed, held{head: h, image: image})
	return true
}

// follows tells whether a sealed block with such a head may stand behind those that were read. The open one is not read yet: its first place is still Next.
func (s *Store) follows(h api.Head) bool {
	last := s.last()
	if len(s.sealed) > 0 && (h.Number <= last.Number || h.Generation <= last.Generation) {
		return false
	}
	return h.Level == s.config.Level && h.Number < s.open.head.Number && h.Generation <= s.generation &&
		h.First >= last.First+last.Count && h.First+h.Count <= s.open.head.First
}

// last is the head of the last sealed block: if there is none, one of noughts.
func (s *Store) last() api.Head {
	if len(s.sealed) == 0 {
		return api.Head{}
	}
	return s.sealed[len(s.sealed)-1].head
}

// readTail lays the lines of the open block down, if they are right.
func (s *Store) readTail(r *code.Reader) bool {
	b, is := unsummed(r, wordBytes+lengthBytes)
	if !is {
		return false
	}
	generation, length := number(b[:wordBytes]), number(b[wordBytes:])
	if length == 0 {
		return generation == 0
	}
	payload, is := unsummed(r, int(length))
	if !is || generation > uint64(s.generation) {
		return false
	}
	l, e, _ := record.Decode(payload)
	if e != api.OK || len(l) == 0 {
		return false
	}
	open := s.open.behind(l)
	open.head.Generation = int(generation)
	if !s.ends(open.head) {
		return false
	}
	s.open = open
	return true
}

// ends tells whether the open block with such a head may stand behind the sealed ones.
func (s *Store) ends(h api.Head) bool {
	last := s.last()
	return h.Generation > last.Generation && h.First >= last.First+last.Count && !isFull(s.config, h)
}

// unsummed takes so many bytes, behind which their sum stands.
func unsummed(r *code.Reader, n int) (string, bool) {
	b, e := r.Take(n)
	if e != api.OK {
		return "", false
	}
	sum, e := r.Fixed(sumBytes)
	if e != api.OK || sum != uint64(sums.CRC(b)) {
		return "", false
	}
	return b, true
}

// number reads all of some bytes, eight at most.
func number(b string) uint64 {
	n, _ := code.Read(b).Fixed(len(b))
	return n
}
