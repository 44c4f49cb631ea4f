package swar

import "testing"

func TestLoadAndSpread(t *testing.T) { // 1.1
	for _, c := range []struct {
		s    string
		at   int
		want uint64
	}{
		{"abc", 0, 0x636261}, {"abc", -1, 0x63626100}, {"abc", 3, 0}, {"", 0, 0},
		{"abc", -7, 0x6100000000000000}, {"abc", -8, 0}, {"abcdefghi", 1, 0x6968676665646362},
		{"abcdefghi", -7, 0x6100000000000000}, {"abc", greatest, 0}, {"abc", least, 0},
	} {
		if w := Load(c.s, c.at); w != c.want {
			t.Errorf("Load(%q, %d) = %x, want %x", c.s, c.at, w, c.want)
		}
	}
	for _, s := range texts() {
		for _, at := range placesOf(s) {
			if w, want := Load(s, at), plainLoad(s, at); w != want {
				t.Fatalf("Load(%q, %d) = %x, want %x", s, at, w, want)
			}
		}
	}
	for b := range 256 {
		if w, want := Spread(byte(b)), byBytes(func(int) byte { return byte(b) }); w != want {
			t.Errorf("Spread(%d) = %x, want %x", b, w, want)
		}
	}
}

func TestLoadStaysWithinThePiece(t *testing.T) { // 1.1
	if w := Load("abcdefghij"[:3], 1); w != 0x6362 {
		t.Errorf("Load of a piece = %x: bytes from behind it", w)
	}
	if w := Load("abcdefghij"[4:], -2); w != 0x6a69686766650000 {
		t.Errorf("Load of a piece = %x: bytes from ahead of it", w)
	}
}

func TestZerosAndEqual(t *testing.T) { // 1.2
	words := trickyWords()
	for i, w := range words {
		if m, want := Zeros(w), marksOf(func(k int) bool { return byteOf(w, k) == 0 }); m != want {
			t.Fatalf("Zeros(%x) = %x, want %x", w, m, want)
		}
		other := words[(i*7+3)%len(words)]
		want := marksOf(func(k int) bool { return byteOf(w, k) == byteOf(other, k) })
		if m := Equal(w, other); m != want {
			t.Fatalf("Equal(%x, %x) = %x, want %x", w, other, m, want)
		}
	}
	if m := Zeros(0x0100ff0000008000); m != 0x0080008080800080 {
		t.Errorf("Zeros = %x", m)
	}
	if m := Equal(Load("abca", 0), Spread('a')); m != 0x80000080 {
		t.Errorf("Equal = %x", m)
	}
}

func TestBelow(t *testing.T) { // 1.2
	if m := Below(Load("a0Z", 0), 'a'); m != 0x8080808080808000 {
		t.Errorf("Below = %x", m)
	}
	for b := range 256 {
		for x := range 256 {
			for _, beside := range []byte{0, 0x7f, 0x80, 0xff} {
				w := byBytes(func(k int) byte {
					if k%2 == 0 {
						return byte(x)
					}
					return beside
				})
				if m, want := Below(w, byte(b)), marksOf(func(k int) bool { return byteOf(w, k) < byte(b) }); m != want {
					t.Fatalf("Below(%x, %d) = %x, want %x", w, b, m, want)
				}
			}
		}
	}
	for i, w := range trickyWords() {
		b := byte(i)
		if m, want := Below(w, b), marksOf(func(k int) bool { return byteOf(w, k) < b }); m != want {
			t.Fatalf("Below(%x, %d) = %x, want %x", w, b, m, want)
		}
	}
}

func TestLower(t *testing.T) { // 1.3
	if w := Lower(Load("AzZ[", 0)); w != 0x5b7a7a61 {
		t.Errorf("Lower = %x", w)
	}
	words := trickyWords()
	for b := range 256 {
		words = append(words, Spread(byte(b)), uint64(b)<<24, ^(uint64(b) << 24))
	}
	for _, w := range words {
		if got, want := Lower(w), byBytes(func(k int) byte { return plainSmall(byteOf(w, k)) }); got != want {
			t.Fatalf("Lower(%x) = %x, want %x", w, got, want)
		}
	}
}

func TestFirstAndOnes(t *testing.T) { // 1.4
	for _, m := range trickyWords() {
		first, ones := 8, 0
		for k := 7; k >= 0; k-- {
			if byteOf(m, k) >= 128 {
				first = k
				ones++
			}
		}
		if First(m) != first || Ones(m) != ones {
			t.Fatalf("First, Ones of %x = %d, %d, want %d, %d", m, First(m), Ones(m), first, ones)
		}
	}
	if First(0) != 8 || Ones(0) != 0 || First(0x7f) != 8 || Ones(0x7f) != 0 {
		t.Errorf("First and Ones where nothing is marked: %d %d %d %d", First(0), Ones(0), First(0x7f), Ones(0x7f))
	}
	if First(1<<63) != 7 || Ones(^uint64(0)) != 8 {
		t.Errorf("First(1<<63) = %d, Ones of all = %d", First(1<<63), Ones(^uint64(0)))
	}
}

func TestWhatFollowsOfWords(t *testing.T) { // 1.11
	words := trickyWords()
	for i, w := range words {
		other := words[(i*5+1)%len(words)]
		if Equal(w, other) != Zeros(w^other) {
			t.Fatalf("Equal(%x, %x) is not Zeros of both XORed", w, other)
		}
		m := Zeros(w)
		for k := range 8 {
			above := m >> (8 * k) << (8 * k)
			if (byteOf(m, k) == 0x80) != (First(above) == k) {
				t.Fatalf("byte %d of %x, and First(%x) = %d", k, m, above, First(above))
			}
		}
	}
}
