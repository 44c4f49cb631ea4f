package sums

import (
	"math/big"
	"math/rand"
)

// The plain forms here do what the chapter's words say, a step or a number at a time; the sums are held against them.

const greatest = int(^uint(0) >> 1)

func plainStep(c uint32) uint32 {
	right := c / 2
	if c%2 == 1 {
		return right ^ 0x82F63B78
	}
	return right
}

func plainSteps(c uint32, n int) uint32 {
	for range n {
		c = plainStep(c)
	}
	return c
}

func plainCRC(s string) uint32 {
	c := uint32(0xFFFFFFFF)
	for i := range len(s) {
		c = plainSteps(c^uint32(s[i]), 8)
	}
	return 0xFFFFFFFF - c
}

// ring is the numbers of so many bits: what a sum or a product has above them is left out.
type ring struct{ bits uint }

func (r ring) size() *big.Int { return new(big.Int).Lsh(big.NewInt(1), r.bits) }

func (r ring) add(a, b *big.Int) *big.Int {
	c := new(big.Int).Add(a, b)
	return c.Mod(c, r.size())
}

func (r ring) sub(a, b *big.Int) *big.Int {
	c := new(big.Int).Sub(a, b)
	return c.Mod(c, r.size())
}

func (r ring) times(a, b *big.Int) *big.Int {
	c := new(big.Int).Mul(a, b)
	return c.Mod(c, r.size())
}

func (r ring) left(a *big.Int, n uint) *big.Int {
	c := new(big.Int).Lsh(a, n)
	above := new(big.Int).Div(c, r.size())
	return c.Add(c.Mod(c, r.size()), above)
}

func xored(a, b *big.Int) *big.Int { return new(big.Int).Xor(a, b) }

func right(a *big.Int, n uint) *big.Int { return new(big.Int).Rsh(a, n) }

func hex(s string) *big.Int {
	n, _ := new(big.Int).SetString(s, 16)
	return n
}

func hexes(of ...string) []*big.Int {
	out := []*big.Int{nil} // P1 stands at 1
	for _, s := range of {
		out = append(out, hex(s))
	}
	return out
}

func number(n uint64) *big.Int { return new(big.Int).SetUint64(n) }

// taken takes a word of n bytes off.
func taken(s *string, n int) *big.Int {
	w := new(big.Int)
	for i := n - 1; i >= 0; i-- {
		w.Add(w.Lsh(w, 8), big.NewInt(int64((*s)[i])))
	}
	*s = (*s)[n:]
	return w
}

// plainFour is the four numbers behind all rows, and what is left.
func plainFour(r ring, p []*big.Int, seed *big.Int, s *string, change func(a, w *big.Int) *big.Int) []*big.Int {
	four := []*big.Int{r.add(seed, r.add(p[1], p[2])), r.add(seed, p[2]), seed, r.sub(seed, p[1])}
	for n := int(r.bits / 8); len(*s) >= 4*n; {
		for i := range four {
			four[i] = change(four[i], taken(s, n))
		}
	}
	return four
}

func plainMerged(r ring, four []*big.Int) *big.Int {
	h := r.left(four[0], 1)
	for i, n := range []uint{7, 12, 18} {
		h = r.add(h, r.left(four[i+1], n))
	}
	return h
}

func plainXX32(seed uint32, s string) uint32 {
	r := ring{32}
	p := hexes("9E3779B1", "85EBCA77", "C2B2AE3D", "27D4EB2F", "165667B1")
	length, start := len(s), number(uint64(seed))
	h := r.add(start, p[5])
	if len(s) >= 16 {
		h = plainMerged(r, plainFour(r, p, start, &s, func(a, w *big.Int) *big.Int {
			return r.times(r.left(r.add(a, r.times(w, p[2])), 13), p[1])
		}))
	}
	h = r.add(h, number(uint64(length)))
	for len(s) >= 4 {
		h = r.times(r.left(r.add(h, r.times(taken(&s, 4), p[3])), 17), p[4])
	}
	for len(s) > 0 {
		h = r.times(r.left(r.add(h, r.times(taken(&s, 1), p[5])), 11), p[1])
	}
	h = r.times(xored(h, right(h, 15)), p[2])
	h = r.times(xored(h, right(h, 13)), p[3])
	return uint32(xored(h, right(h, 16)).Uint64())
}

func plainXX64(seed uint64, s string) uint64 {
	r := ring{64}
	p := hexes("9E3779B185EBCA87", "C2B2AE3D27D4EB4F", "165667B19E3779F9", "85EBCA77C2B2AE63", "27D4EB2F165667C5")
	round := func(a, w *big.Int) *big.Int {
		return r.times(r.left(r.add(a, r.times(w, p[2])), 31), p[1])
	}
	nought := number(0)
	length, start := len(s), number(seed)
	h := r.add(start, p[5])
	if len(s) >= 32 {
		four := plainFour(r, p, start, &s, round)
		h = plainMerged(r, four)
		for _, n := range four {
			h = r.add(r.times(xored(h, round(nought, n)), p[1]), p[4])
		}
	}
	h = r.add(h, number(uint64(length)))
	for len(s) >= 8 {
		h = r.add(r.times(r.left(xored(h, round(nought, taken(&s, 8))), 27), p[1]), p[4])
	}
	if len(s) >= 4 {
		h = r.add(r.times(r.left(xored(h, r.times(taken(&s, 4), p[1])), 23), p[2]), p[3])
	}
	for len(s) > 0 {
		h = r.times(r.left(xored(h, r.times(taken(&s, 1), p[5])), 11), p[1])
	}
	h = r.times(xored(h, right(h, 33)), p[2])
	h = r.times(xored(h, right(h, 29)), p[3])
	return xored(h, right(h, 32)).Uint64()
}

// texts are of each length from 0 to 140, of any bytes, of noughts and of the highest byte.
func texts() []string {
	source := rand.New(rand.NewSource(2))
	var out []string
	for n := range 141 {
		out = append(out, anyText(source, n), string(make([]byte, n)), filled(n, 0xff))
	}
	return append(out, anyText(source, 1000), anyText(source, 4099))
}

func anyText(source *rand.Rand, n int) string {
	b := make([]byte, n)
	source.Read(b)
	return string(b)
}

func filled(n int, with byte) string {
	b := make([]byte, n)
	for i := range b {
		b[i] = with
	}
	return string(b)
}

func seeds32() []uint32 { return []uint32{0, 1, 7, 0x61C8864F, 0x9E3779B1, 0xFFFFFFFF} }

func seeds64() []uint64 { return []uint64{0, 1, 7, 0x9E3779B185EBCA87, 1 << 63, 1<<64 - 1} }
