package swar

import (
	"math/rand"
	"strings"
)

// The plain forms here go byte by byte, as the chapter's words do; the kernels are held against them.

const (
	greatest = int(^uint(0) >> 1)
	least    = -greatest - 1
)

func byteOf(w uint64, k int) byte { return byte(w >> (8 * k)) }

// byBytes makes a word byte by byte.
func byBytes(of func(k int) byte) uint64 {
	var w uint64
	for k := range 8 {
		w |= uint64(of(k)) << (8 * k)
	}
	return w
}

// marksOf marks the bytes of which is says so.
func marksOf(is func(k int) bool) uint64 {
	return byBytes(func(k int) byte {
		if is(k) {
			return 0x80
		}
		return 0
	})
}

func plainLoad(s string, at int) uint64 {
	return byBytes(func(k int) byte {
		if at > greatest-8 || at+k < 0 || at+k >= len(s) {
			return 0
		}
		return s[at+k]
	})
}

func plainSmall(b byte) byte {
	if b >= 65 && b <= 90 {
		return b + 32
	}
	return b
}

func plainIndexOf(s string, from int, set ...byte) int {
	for p := max(from, 0); p < len(s); p++ {
		for _, b := range set {
			if s[p] == b {
				return p
			}
		}
	}
	return -1
}

func plainLast(s string, b byte, ahead int) int {
	for p := min(max(ahead, 0), len(s)) - 1; p >= 0; p-- {
		if s[p] == b {
			return p
		}
	}
	return -1
}

func plainCount(s string, b byte) int {
	n := 0
	for p := range len(s) {
		if s[p] == b {
			n++
		}
	}
	return n
}

func plainPair(s string, first, last byte, gap, from int) int {
	if gap < 0 {
		return -1
	}
	for p := max(from, 0); p < len(s) && gap < len(s)-p; p++ {
		if s[p] == first && s[p+gap] == last {
			return p
		}
	}
	return -1
}

func plainFold(s string) string {
	var out []byte
	for p := range len(s) {
		out = append(out, plainSmall(s[p]))
	}
	return string(out)
}

func plainCommon(a, b string) int {
	n := 0
	for n < len(a) && n < len(b) && a[n] == b[n] {
		n++
	}
	return n
}

// trickyBytes stand at the edges of what the kernels tell apart: noughts, marks, capitals and their neighbours.
const trickyBytes = "\x00\x01\x0a\x20\x40AZ[`az{\x7f\x80\x81\xc1\xda\xe1\xfe\xff"

// trickyWords are words of few kinds of bytes side by side, where a carry or a borrow would show.
func trickyWords() []uint64 {
	words := []uint64{0, ^uint64(0), lowest, marks, ^uint64(marks), 0x0100ff0000008000, 0x0101010101010100}
	r := rand.New(rand.NewSource(1))
	for range 3000 {
		words = append(words, r.Uint64(), byBytes(func(int) byte { return trickyBytes[r.Intn(len(trickyBytes))] }))
	}
	for i := range len(trickyBytes) {
		for j := range len(trickyBytes) {
			words = append(words, byBytes(func(k int) byte {
				if k%2 == 0 {
					return trickyBytes[i]
				}
				return trickyBytes[j]
			}))
		}
	}
	return words
}

// texts have every length from 0 to 40, of few kinds of bytes and of many.
func texts() []string {
	r := rand.New(rand.NewSource(2))
	var list []string
	for n := range 41 {
		for _, kinds := range []string{"ab", "\x00a", "\x00", "a\n", trickyBytes} {
			var b strings.Builder
			for range n {
				b.WriteByte(kinds[r.Intn(len(kinds))])
			}
			list = append(list, b.String())
		}
	}
	return list
}

// placesOf are those in s, some ahead of it and behind it, and the ends of int.
func placesOf(s string) []int {
	list := []int{least, least + 1, least + 8, greatest - 8, greatest - 7, greatest - 1, greatest}
	for p := -10; p <= len(s)+10; p++ {
		list = append(list, p)
	}
	return list
}
