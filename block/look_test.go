package block

import (
	"math"
	"math/bits"
	"math/rand"
	"strings"
	"testing"

	"dragnet/api"
)

func TestLook(t *testing.T) { // 18.2
	b := sealed(t, fewHead, few)
	for _, c := range []string{b, b[:73], b[:84], b + "x", b[:73] + strings.Repeat("\xff", 99), with(b, 75, 'x'), with(b, 84, b[84]^1)} { // what follows the head is not looked at
		if h, e := Look(c); h != fewHead || e != nil {
			t.Errorf("Look(%x) = %v, %v", c, h, e)
		}
	}
	for _, c := range []struct {
		b    string
		code api.Errno
		at   int
	}{
		{"", api.ErrShort, 0}, {"x", api.ErrShort, 1}, {"DRG1", api.ErrShort, 4}, {b[:72], api.ErrShort, 72}, {strings.Repeat("x", 72), api.ErrShort, 72},
		{strings.Repeat("x", 73), api.ErrMagic, 0}, {"DRG2" + b[4:], api.ErrMagic, 0}, {"drg1" + b[4:], api.ErrMagic, 0}, {with(with(b, 3, '0'), 20, 0), api.ErrMagic, 0},
		{with(b, 4, 0), api.ErrSum, 69}, {with(b, 20, 0), api.ErrSum, 69}, {with(b, 68, 3), api.ErrSum, 69}, {with(b, 69, b[69]+1), api.ErrSum, 69}, {with(b, 72, b[72]+1), api.ErrSum, 69},
	} {
		if h, e := Look(c.b); h != (api.Head{}) || !same(e, &Fault{c.at, c.code}) {
			t.Errorf("Look(%x) = %v, %v, want %v at %d", c.b, h, e, c.code, c.at)
		}
		holdsLook(t, c.b)
	}
}

// edges are numbers beside those from which on one of the head may not be.
var edges = []uint64{0, 1, 2, 3, 131071, 131072, 131073, 131601, 131602, 131603, 253402300799998, 253402300799999, 253402300800000, 1<<60 - 1, 1 << 60, 1<<60 + 1, 1<<63 - 1, 1 << 63, 1<<63 + 5, math.MaxUint64}

func TestLookForm(t *testing.T) { // 18.2
	may := plainNumbers(fewHead)
	for _, c := range []struct {
		word int
		n    uint64
		at   int // 0: it may be
	}{
		{0, 0, 0}, {0, 1 << 60, 0}, {0, 1<<60 + 1, 4}, {0, 1 << 63, 4},
		{1, 0, 0}, {1, 1 << 60, 0}, {1, 1<<60 + 1, 12}, {1, math.MaxUint64, 12},
		{2, 0, 20}, {2, 1, 0}, {2, 131072, 0}, {2, 131073, 20}, {2, 1 << 63, 20},
		{3, 0, 0}, {3, 5, 0}, {3, 6, 36}, {3, 253402300799999, 36}, {3, 253402300800000, 28}, {3, math.MaxUint64, 28},
		{4, 3, 0}, {4, 2, 36}, {4, 0, 36}, {4, 253402300799999, 0}, {4, 253402300800000, 36}, {4, math.MaxUint64, 36},
		{5, 0, 0}, {5, 1 << 60, 0}, {5, 1<<60 + 1, 44}, {5, math.MaxUint64, 44},
		{6, 0, 52}, {6, 1, 0}, {6, 131072, 0}, {6, 131073, 52},
		{7, 0, 60}, {7, 1, 0}, {7, 131602, 0}, {7, 131603, 60}, {7, math.MaxUint64, 60},
	} {
		n := may
		n[c.word] = c.n
		h, e := Look(plainHead(n, 1))
		if c.at == 0 && (e != nil || plainNumbers(h) != n) || c.at > 0 && (h != (api.Head{}) || !same(e, &Fault{c.at, api.ErrForm})) {
			t.Errorf("Look of a head whose number %d is %d: %v, %v, want place %d", c.word, c.n, h, e, c.at)
		}
	}
	for level := range 256 {
		h, e := Look(plainHead(may, byte(level)))
		if level <= 2 && (e != nil || h.Level != level) || level > 2 && (h != (api.Head{}) || !same(e, &Fault{68, api.ErrForm})) {
			t.Errorf("Look of a head with the level %d: %v, %v", level, h, e)
		}
	}
}

// TestLookPairs: of two that may not be the first one is told, whatever the level.
func TestLookPairs(t *testing.T) { // 18.2
	may := plainNumbers(fewHead)
	for one := range 8 {
		for _, first := range edges {
			for other := range one {
				for _, second := range edges {
					n := may
					n[one], n[other] = first, second
					holdsLook(t, plainHead(n, byte(bits.Len64(first)%4)))
				}
			}
			n := may
			n[one] = first
			for _, level := range []byte{0, 2, 3, 255} {
				holdsLook(t, plainHead(n, level))
			}
		}
	}
}

func TestLookAny(t *testing.T) { // 18.2
	source := rand.New(rand.NewSource(182))
	for range 20000 {
		var n [8]uint64
		for i := range n {
			n[i] = edges[source.Intn(len(edges))]
			if source.Intn(3) > 0 {
				n[i] = source.Uint64() >> (16 + source.Intn(47))
			}
		}
		if source.Intn(2) == 0 {
			n[4] = n[3] + n[4]
		}
		b := plainHead(n, byte(source.Intn(4)))
		holdsLook(t, b)
		holdsLook(t, with(b, source.Intn(len(b)), byte(source.Intn(256))))
	}
}
