package sums

import (
	"math/rand"
	"strings"
	"testing"
)

func holds(t *testing.T, h *Hash, seed uint32, written string) {
	t.Helper()
	if got, want := h.Sum(), XX32(seed, written); got != want {
		t.Fatalf("Sum of %q under %X = %X, want %X", written, seed, got, want)
	}
	if h.Len() != len(written) {
		t.Fatalf("Len of %q = %d", written, h.Len())
	}
}

func TestHash(t *testing.T) { // 2.5
	h := New(0)
	holds(t, h, 0, "")
	h.Write("a")
	h.Write("")
	h.Write("bc")
	if h.Sum() != 0x32D153FF || h.Sum() != 0x32D153FF || h.Len() != 3 {
		t.Errorf("abc: %X, %d", h.Sum(), h.Len())
	}
	h.Reset()
	if h.Sum() != 0x02CC5D05 || h.Len() != 0 {
		t.Errorf("behind Reset: %X, %d", h.Sum(), h.Len())
	}
}

func TestHashReset(t *testing.T) { // 2.5: nothing of what was written stays, the seed does
	for _, seed := range seeds32() {
		for n := range 40 {
			h := New(seed)
			h.Write(strings.Repeat("x", n))
			h.Reset()
			holds(t, h, seed, "")
			h.Write("a text behind that, of some rows and a rest")
			holds(t, h, seed, "a text behind that, of some rows and a rest")
		}
	}
}

func TestHashCuts(t *testing.T) { // 2.5, 2.6: two cuts, each where it may be
	s := anyText(rand.New(rand.NewSource(25)), 70)
	for k := range len(s) + 1 {
		for m := k; m <= len(s); m++ {
			h := New(7)
			h.Write(s[:k])
			holds(t, h, 7, s[:k])
			h.Write(s[k:m])
			holds(t, h, 7, s[:m])
			h.Write(s[m:])
			holds(t, h, 7, s)
		}
	}
}

func TestHashPieces(t *testing.T) { // 2.6: any pieces, Sum asked between them or not
	source := rand.New(rand.NewSource(26))
	for range 300 {
		seed, greatest := source.Uint32(), 1+source.Intn(60)
		h := New(seed)
		var all strings.Builder
		for range source.Intn(30) {
			piece := anyText(source, source.Intn(greatest))
			all.WriteString(piece)
			h.Write(piece)
			if source.Intn(2) == 0 {
				holds(t, h, seed, all.String())
			}
		}
		holds(t, h, seed, all.String())
	}
}

func TestHashesApart(t *testing.T) { // 2.5: what is written to one shows in it alone
	a, b := New(1), New(1)
	a.Write("some bytes, more than a row")
	b.Write("others")
	holds(t, a, 1, "some bytes, more than a row")
	holds(t, b, 1, "others")
	a.Reset()
	holds(t, b, 1, "others")
}
