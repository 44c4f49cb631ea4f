package sums

import (
	"math/bits"
	"math/rand"
	"testing"
)

func TestXX32(t *testing.T) { // 2.3
	for _, c := range []struct {
		s    string
		want uint32
	}{{"", 0x02CC5D05}, {"a", 0x550D7456}, {"abc", 0x32D153FF}, {"Nobody inspects the spammish repetition", 0xE2293B2F}} {
		if got := XX32(0, c.s); got != c.want {
			t.Errorf("XX32(0, %q) = %X, want %X", c.s, got, c.want)
		}
	}
	for _, s := range texts() {
		for _, seed := range seeds32() {
			if got, want := XX32(seed, s), plainXX32(seed, s); got != want {
				t.Fatalf("XX32(%X, %q) = %X, want %X", seed, s, got, want)
			}
		}
	}
}

func TestXX64(t *testing.T) { // 2.4
	for _, c := range []struct {
		seed uint64
		s    string
		want uint64
	}{
		{0, "", 0xEF46DB3751D8E999}, {0, "a", 0xD24EC4F1A98C6E5B}, {0, "abc", 0x44BC2CF5AD770999},
		{0, "Nobody inspects the spammish repetition", 0xFBCEA83C8A378BF1}, {20141025, "xxhash", 13067679811253438005},
	} {
		if got := XX64(c.seed, c.s); got != c.want {
			t.Errorf("XX64(%d, %q) = %X, want %X", c.seed, c.s, got, c.want)
		}
	}
	for _, s := range texts() {
		for _, seed := range seeds64() {
			if got, want := XX64(seed, s), plainXX64(seed, s); got != want {
				t.Fatalf("XX64(%X, %q) = %X, want %X", seed, s, got, want)
			}
		}
	}
}

func TestXX32OneByte(t *testing.T) { // 2.6: a change of one byte shows
	source := rand.New(rand.NewSource(32))
	for range 500 {
		seed := source.Uint32()
		b := []byte(anyText(source, 1+source.Intn(70)))
		at := source.Intn(len(b))
		seen := map[uint32]bool{}
		for v := range 256 {
			b[at] = byte(v)
			sum := XX32(seed, string(b))
			if seen[sum] {
				t.Fatalf("%q, the byte at %d: twice %X", b, at, sum)
			}
			seen[sum] = true
		}
	}
}

func TestXX32OfFour(t *testing.T) { // 2.6
	for _, seed := range seeds32() {
		if alike(func(s string) uint32 { return XX32(seed, s) }) {
			t.Errorf("two texts of four bytes have one XX32 under the seed %X", seed)
		}
	}
}

// inverse is the number by which an odd one makes 1: each turn makes twice as many of its bits right.
func inverse(odd uint64) uint64 {
	n := odd
	for range 6 {
		n *= 2 - odd*n
	}
	return n
}

// unstirred is the h of which h XOR h gone right by n is it.
func unstirred(it uint64, n int) uint64 {
	h := it
	for range 64 / n {
		h = it ^ h>>n
	}
	return h
}

// eightOf is the word of the one text of eight bytes that has this XX64: the way back, step by step.
func eightOf(seed, sum uint64) uint64 {
	h := unstirred(sum, 32) * inverse(0x165667B19E3779F9)
	h = unstirred(h, 29) * inverse(0xC2B2AE3D27D4EB4F)
	h = unstirred(h, 33) - 0x85EBCA77C2B2AE63
	h = bits.RotateLeft64(h*inverse(0x9E3779B185EBCA87), -27) ^ (seed + 0x27D4EB2F165667C5 + 8)
	return bits.RotateLeft64(h*inverse(0x9E3779B185EBCA87), -31) * inverse(0xC2B2AE3D27D4EB4F)
}

func TestXX64OfEight(t *testing.T) { // 2.6: there is a way back, so no two have one sum
	source := rand.New(rand.NewSource(64))
	for _, seed := range seeds64() {
		for range 5000 {
			w := source.Uint64()
			s := four(uint32(w)) + four(uint32(w>>32))
			if back := eightOf(seed, XX64(seed, s)); back != w {
				t.Fatalf("XX64(%X, %q) leads back to %X, not %X", seed, s, back, w)
			}
		}
	}
}
