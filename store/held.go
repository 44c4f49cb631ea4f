package store

import (
	"dragnet/api"
	"dragnet/block"
	"dragnet/code"
)

// held is a block as it is kept: a sealed one by its image, the open one by its lines.
type held struct {
	head  api.Head
	image string
	lines []api.Line // behind them others may be laid down, but none is written over
}

// emptied is the open block before its first line: the payload of no lines is what its head tells.
func emptied(number, first, level int) held {
	return held{head: api.Head{Number: number, First: first, Level: level, Raw: len(code.Uint(0))}}
}

// with is the head of the open block with one line more, but for its generation. What the payload grows by is told as record writes it, so that no payload is made to ask for its size.
func (b held) with(l api.Line) api.Head {
	h, last := b.head, 0
	if h.Count == 0 {
		h.Min, h.Max = l.Stamp, l.Stamp
	} else {
		last = b.lines[h.Count-1].Stamp
	}
	h.Min = min(h.Min, l.Stamp)
	h.Max = max(h.Max, l.Stamp)
	h.Raw += len(code.Uint(uint64(h.Count+1))) - len(code.Uint(uint64(h.Count)))
	h.Raw += len(code.Int(l.Stamp-last)) + len(code.Text(l.Text))
	h.Count++
	return h
}

// behind is the open block with these lines, the last of which stands where the next one was to stand.
func (b held) behind(l []api.Line) held {
	b.head.First -= len(l)
	for _, line := range l {
		b.head = b.with(line)
		b.lines = append(b.lines, line)
	}
	return b
}

// packed is the open block, sealed. Its lines and its head are such that no image is refused, so block has no error to tell.
func (b held) packed() held {
	image, _ := block.Seal(b.head, b.lines)
	head, _ := block.Look(image)
	return held{head: head, image: image}
}

// isSealed tells what kind of block it is.
func (b held) isSealed() bool { return b.image != "" }

// list is its lines, in memory that nobody else has. An image that is kept is one that block made, or took.
func (b held) list() []api.Line {
	if b.isSealed() {
		_, l, _ := block.Open(b.image)
		return l
	}
	l := make([]api.Line, len(b.lines))
	copy(l, b.lines)
	return l
}

// touches tells whether one of its lines lies in a partition of so many milliseconds. Between those of its least and its greatest stamp, which are lines' stamps too, the lines alone tell.
func (b held) touches(p, part int) bool {
	least, most := b.head.Min/part, b.head.Max/part
	if p <= least || p >= most {
		return p == least || p == most
	}
	for _, l := range b.list() {
		if l.Stamp/part == p {
			return true
		}
	}
	return false
}
