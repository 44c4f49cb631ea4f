package code

import (
	"strings"

	"dragnet/api"
)

// characters are the 64, each at the place of its number.
const characters = "ABCDEFGHIJKLMNOPQRSTUVWXYZabcdefghijklmnopqrstuvwxyz0123456789-_"

const (
	byteBits      = 8
	characterBits = 6
)

// waiting is bits of a text that fill no group yet: the lowest so many of held. What stands above them was given out; it is pushed out in time.
type waiting struct {
	held uint32
	bits int
}

// put adds a group of so many bits behind those that wait.
func (w *waiting) put(group uint32, bits int) {
	w.held = w.held<<bits | group
	w.bits += bits
}

// take is the first bits that wait, as a number: they wait no more.
func (w *waiting) take(bits int) uint32 {
	w.bits -= bits
	return w.held >> w.bits & (1<<bits - 1)
}

// Armor writes bytes by 64 characters, Plain reads that.
func Armor(s string) string {
	var out strings.Builder
	out.Grow((len(s)*byteBits + characterBits - 1) / characterBits)
	var w waiting
	for i := range len(s) {
		w.put(uint32(s[i]), byteBits)
		for w.bits >= characterBits {
			out.WriteByte(characters[w.take(characterBits)])
		}
	}
	if w.bits > 0 {
		w.put(0, characterBits-w.bits)
		out.WriteByte(characters[w.take(characterBits)])
	}
	return out.String()
}

func Plain(s string) (string, api.Errno, int) {
	out := make([]byte, 0, len(s)*characterBits/byteBits)
	var w waiting
	for i := range len(s) {
		number := strings.IndexByte(characters, s[i])
		if number < 0 {
			return "", api.ErrChar, i
		}
		w.put(uint32(number), characterBits)
		if w.bits >= byteBits {
			out = append(out, byte(w.take(byteBits)))
		}
	}
	if len(s)%4 == 1 {
		return "", api.ErrShort, len(s)
	}
	if w.take(w.bits) > 0 {
		return "", api.ErrForm, len(s) - 1
	}
	return string(out), api.OK, 0
}
