package store

import (
	"cmp"
	"iter"
	"slices"

	"dragnet/api"
)

// blocks goes over those that have lines, as they are when the range begins.
func (s *Store) blocks() iter.Seq[held] {
	return func(yield func(held) bool) {
		sealed, open := s.sealed, s.open
		for _, b := range sealed {
			if !yield(b) {
				return
			}
		}
		if len(open.lines) > 0 {
			yield(open)
		}
	}
}

// block finds one that has lines, by its number.
func (s *Store) block(number int) (held, bool) {
	if number == s.open.head.Number && len(s.open.lines) > 0 {
		return s.open, true
	}
	n, is := slices.BinarySearchFunc(s.sealed, number, func(b held, number int) int {
		return cmp.Compare(b.head.Number, number)
	})
	if !is {
		return held{}, false
	}
	return s.sealed[n], true
}

// Heads is the blocks', the open one (if it has lines) last.
func (s *Store) Heads() []api.Head {
	var heads []api.Head
	for b := range s.blocks() {
		heads = append(heads, b.head)
	}
	return heads
}

// Lines is a block's, by its number; Image a sealed one's.
func (s *Store) Lines(number int) ([]api.Line, bool) {
	b, is := s.block(number)
	if !is {
		return nil, false
	}
	return b.list(), true
}

func (s *Store) Image(number int) (string, bool) {
	b, is := s.block(number)
	if !is || !b.isSealed() {
		return "", false
	}
	return b.image, true
}

// Within goes over the numbers of the blocks that may have lines from a stamp on and ahead of another.
func (s *Store) Within(from, to int) iter.Seq[int] {
	return func(yield func(int) bool) {
		for b := range s.blocks() {
			if b.head.Max < from || b.head.Min >= to {
				continue
			}
			if !yield(b.head.Number) {
				return
			}
		}
	}
}

// Part is the numbers of the blocks with a line in a partition.
func (s *Store) Part(p int) []int {
	var numbers []int
	for b := range s.blocks() {
		if b.touches(p, s.config.Part) {
			numbers = append(numbers, b.head.Number)
		}
	}
	return numbers
}

// All goes over the lines and their places.
func (s *Store) All() iter.Seq2[int, api.Line] {
	return func(yield func(int, api.Line) bool) {
		for b := range s.blocks() {
			for n, l := range b.list() {
				if !yield(b.head.First+n, l) {
					return
				}
			}
		}
	}
}
