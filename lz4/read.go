package lz4

import (
	"iter"
	"math"
	"strings"

	"dragnet/api"
)

// piece is a sequence as it is read: its literals are still a part of the packed text.
type piece struct {
	token    int // its place
	literals string
	offset   int // 0 of the last one, as its count
	count    int
}

// walk reads the sequences of b, which go on from so many bytes ahead, and hands them to take until it has enough. Length bytes of literals and of copies are one part: where it goes on hangs on whether the offset was read.
func walk(b string, ahead, most int, take func(piece) bool) (api.Errno, int) {
	var x piece
	var at, said, count, low int
	var follows bool

token:
	if at == len(b) {
		return api.ErrShort, len(b)
	}
	x = piece{token: at}
	count, low = int(b[at]>>4), int(b[at]&half)
	follows = count == half
	at++

length:
	if count > most-said {
		return api.ErrMost, x.token
	}
	if follows {
		if at == len(b) {
			return api.ErrShort, len(b)
		}
		count += int(b[at])
		follows = b[at] == more
		at++
		goto length
	}
	if x.offset > 0 {
		goto back
	}

	if count > len(b)-at {
		return api.ErrShort, len(b)
	}
	x.literals = b[at : at+count]
	at, said = at+count, said+count
	if at == len(b) {
		take(x)
		return api.OK, 0
	}

	if at+1 == len(b) {
		return api.ErrShort, len(b)
	}
	x.offset = int(b[at]) | int(b[at+1])<<8
	if x.offset == 0 || x.offset > ahead+said {
		return api.ErrOffset, at
	}
	at += 2
	count, follows = leastCopy+low, low == half
	goto length

back:
	x.count = count
	said += count
	if take(x) {
		goto token
	}
	return api.OK, 0
}

// Expand unpacks; with an error: the place.
func Expand(b string, most int) (string, api.Errno, int) { return ExpandOn("", b, most) }

// ExpandOn unpacks what may reach back into what stood ahead of it.
func ExpandOn(before, b string, most int) (string, api.Errno, int) {
	if most < 0 {
		return "", api.ErrArg, 0
	}
	var said []byte
	e, at := walk(b, len(before), most, func(x piece) bool {
		said = append(said, x.literals...)
		said = lay(before, said, x.offset, x.count)
		return true
	})
	if e != api.OK {
		return "", e, at
	}
	return string(said), api.OK, 0
}

// lay repeats what stands from the offset on, at first what stood ahead of it all. What it laid goes on the same way: so each round may take twice as much.
func lay(before string, said []byte, offset, count int) []byte {
	if beyond := offset - len(said); beyond > 0 {
		k := min(count, beyond)
		said = append(said, before[len(before)-beyond:][:k]...)
		count -= k
	}
	from := len(said) - offset
	for count > 0 {
		k := min(count, len(said)-from)
		said = append(said, said[from:from+k]...)
		count -= k
	}
	return said
}

// Parts goes over the sequences of a packed text: the place and the sequence.
func Parts(b string) iter.Seq2[int, api.Sequence] {
	return func(yield func(int, api.Sequence) bool) {
		walk(b, 0, math.MaxInt, func(x piece) bool {
			return yield(x.token, api.Sequence{Literals: strings.Clone(x.literals), Offset: x.offset, Length: x.count})
		})
	}
}
