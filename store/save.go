package store

import (
	"strings"

	"dragnet/api"
	"dragnet/code"
	"dragnet/record"
	"dragnet/sums"
)

const (
	magic       = "DRGS"
	wordBytes   = 8
	lengthBytes = 4
	sumBytes    = 4
)

// The numbers of a saved head, in its order.
const (
	wordSize = iota
	wordSpan
	wordCount
	wordBlocks
	wordLevel
	wordPart
	wordGeneration
	wordNext
	wordNumber
	wordSealed
	words
)

// numbers are those of a saved head.
type numbers [words]uint64

func (s *Store) numbers() numbers {
	return numbers{
		wordSize:       uint64(s.config.Size),
		wordSpan:       uint64(s.config.Span),
		wordCount:      uint64(s.config.Count),
		wordBlocks:     uint64(s.config.Blocks),
		wordLevel:      uint64(s.config.Level),
		wordPart:       uint64(s.config.Part),
		wordGeneration: uint64(s.generation),
		wordNext:       uint64(s.Next()),
		wordNumber:     uint64(s.open.head.Number),
		wordSealed:     uint64(len(s.sealed)),
	}
}

// configOf is the configuration that such numbers tell.
func configOf(n numbers) api.Config {
	return api.Config{
		Size:   int(n[wordSize]),
		Span:   int(n[wordSpan]),
		Count:  int(n[wordCount]),
		Blocks: int(n[wordBlocks]),
		Level:  int(n[wordLevel]),
		Part:   int(n[wordPart]),
	}
}

// Save is all of it as bytes; Load reads that; Mend reads as much as is right from the front.
func (s *Store) Save() string {
	var out strings.Builder
	out.WriteString(s.saveHead())
	for _, b := range s.sealed {
		out.WriteString(summed(fixed(uint64(len(b.image)), lengthBytes)))
		out.WriteString(b.image)
	}
	out.WriteString(s.open.saveTail())
	return out.String()
}

func (s *Store) saveHead() string {
	b := magic
	for _, n := range s.numbers() {
		b += fixed(n, wordBytes)
	}
	return summed(b)
}

// saveTail is the open block as it is saved. It has no payload, if it has no line: record's of no lines is a byte.
func (b held) saveTail() string {
	generation := fixed(uint64(b.head.Generation), wordBytes)
	if len(b.lines) == 0 {
		return summed(generation + fixed(0, lengthBytes))
	}
	payload, _, _ := record.Encode(b.lines) // lines that were taken, and are fewer than a payload may have
	return summed(generation+fixed(uint64(len(payload)), lengthBytes)) + summed(payload)
}

// fixed is a number in so many bytes; each number of a saved log has room in its own.
func fixed(n uint64, width int) string {
	b, _ := code.Fixed(n, width)
	return b
}

// summed is bytes, and their sum behind them.
func summed(b string) string { return b + fixed(uint64(sums.CRC(b)), sumBytes) }
