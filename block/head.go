package block

import (
	"dragnet/api"
	"dragnet/code"
)

// The head's numbers, in the order of the image.
const (
	wordNumber = iota
	wordFirst
	wordCount
	wordMin
	wordMax
	wordGeneration
	wordRaw
	wordPacked
	words
)

// numbers are those of a head.
type numbers [words]uint64

// placeOf is where one of them stands in the image.
func placeOf(word int) int { return len(magic) + word*wordBytes }

func numbersOf(h api.Head) numbers {
	return numbers{
		wordNumber:     uint64(h.Number),
		wordFirst:      uint64(h.First),
		wordCount:      uint64(h.Count),
		wordMin:        uint64(h.Min),
		wordMax:        uint64(h.Max),
		wordGeneration: uint64(h.Generation),
		wordRaw:        uint64(h.Raw),
		wordPacked:     uint64(h.Packed),
	}
}

// headOf is what a head with these numbers says, but for its level.
func headOf(n numbers) api.Head {
	return api.Head{
		Number:     int(n[wordNumber]),
		First:      int(n[wordFirst]),
		Count:      int(n[wordCount]),
		Min:        int(n[wordMin]),
		Max:        int(n[wordMax]),
		Generation: int(n[wordGeneration]),
		Raw:        int(n[wordRaw]),
		Packed:     int(n[wordPacked]),
	}
}

// writeHead is a head as it stands in an image, but for its sum.
func writeHead(h api.Head) string {
	b := magic
	for _, n := range numbersOf(h) {
		b += fixed(n, wordBytes)
	}
	return b + fixed(uint64(h.Level), 1)
}

// readNumbers reads what stands between the magic and the level: each of them is there.
func readNumbers(b string) numbers {
	var n numbers
	r := code.Read(b)
	for word := range n {
		n[word], _ = r.Fixed(wordBytes)
	}
	return n
}

// right tells which of the numbers is the first that may not be.
func (n numbers) right() error {
	least := numbers{wordCount: 1, wordMax: n[wordMin], wordRaw: 1, wordPacked: 1}
	most := numbers{
		wordNumber:     mostNumber,
		wordFirst:      mostNumber,
		wordCount:      mostLines,
		wordMin:        api.MaxStamp,
		wordMax:        api.MaxStamp,
		wordGeneration: mostNumber,
		wordRaw:        api.MaxRaw,
		wordPacked:     mostPacked,
	}
	for word := range n {
		if n[word] < least[word] || n[word] > most[word] {
			return &Fault{At: placeOf(word), Code: api.ErrForm}
		}
	}
	return nil
}

// Look reads the head alone, Open all of an image.
func Look(b string) (api.Head, error) {
	if len(b) < headBytes {
		return api.Head{}, &Fault{At: len(b), Code: api.ErrShort}
	}
	if b[:len(magic)] != magic {
		return api.Head{}, &Fault{Code: api.ErrMagic}
	}
	head, e := unsummed(b[:headBytes])
	if e != nil {
		return api.Head{}, e
	}
	n, level := readNumbers(head[len(magic):levelPlace]), head[levelPlace]
	if e := n.right(); e != nil {
		return api.Head{}, e
	}
	if level > mostLevel {
		return api.Head{}, &Fault{At: levelPlace, Code: api.ErrForm}
	}
	h := headOf(n)
	h.Level = int(level)
	return h, nil
}
