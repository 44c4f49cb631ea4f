package sums

import (
	"hash/crc32"
	"math/rand"
	"slices"
	"testing"

	"dragnet/api"
)

func TestCRC(t *testing.T) { // 2.1
	for _, c := range []struct {
		s    string
		want uint32
	}{{"123456789", 0xE3069283}, {"a", 0xC1D04330}, {"", 0}, {string(make([]byte, 32)), 0x8A9136AA}} {
		if got := CRC(c.s); got != c.want {
			t.Errorf("CRC(%q) = %X, want %X", c.s, got, c.want)
		}
	}
	published := crc32.MakeTable(crc32.Castagnoli)
	for _, s := range texts() {
		got := CRC(s)
		if want := plainCRC(s); got != want {
			t.Fatalf("CRC(%q) = %X, want %X", s, got, want)
		}
		if want := crc32.Checksum([]byte(s), published); got != want {
			t.Fatalf("CRC(%q) = %X, published %X", s, got, want)
		}
	}
	for b := range 256 { // each row of the table, in both its halves
		if s := string([]byte{byte(b)}); CRC(s) != plainCRC(s) {
			t.Errorf("CRC of the byte %d = %X, want %X", b, CRC(s), plainCRC(s))
		}
	}
}

func join(t *testing.T, a, b uint32, n int) uint32 {
	t.Helper()
	c, e := Join(a, b, n)
	if e != api.OK {
		t.Fatalf("Join(%X, %X, %d): %v", a, b, n, e)
	}
	return c
}

func TestJoin(t *testing.T) { // 2.2
	if got := join(t, CRC("1234"), CRC("56789"), 5); got != 0xE3069283 {
		t.Errorf("1234 and 56789: %X", got)
	}
	for _, n := range []int{-1, -2, -8, -greatest, -greatest - 1} {
		if got, e := Join(1, 5, n); e != api.ErrArg || got != 0 {
			t.Errorf("Join(1, 5, %d) = %X, %v", n, got, e)
		}
	}
	for _, a := range []uint32{0, 1, 2, 0x80000000, 0x82F63B78, 0xFFFFFFFF, 0x12345678} {
		for _, b := range []uint32{0, 1, 0xFFFFFFFF, 0x9ABCDEF0} {
			for n := range 70 {
				if got, want := join(t, a, b, n), plainSteps(a, 8*n)^b; got != want {
					t.Fatalf("Join(%X, %X, %d) = %X, want %X", a, b, n, got, want)
				}
			}
			for _, n := range []int{255, 256, 1000, 65535, 100003} {
				if got, want := join(t, a, b, n), plainSteps(a, 8*n)^b; got != want {
					t.Fatalf("Join(%X, %X, %d) = %X, want %X", a, b, n, got, want)
				}
			}
		}
	}
}

// The polynomial is x + 1 times one of degree 31 by which x has the order 2^31 - 1: behind so many steps each number comes again.
func TestJoinFar(t *testing.T) { // 2.2
	const order = 1<<31 - 1
	for _, a := range []uint32{1, 0x80000000, 0xDEADBEEF} {
		if got := join(t, a, 0, order); got != a {
			t.Errorf("Join(%X, 0, %d) = %X", a, order, got)
		}
		if got, want := join(t, a, 6, greatest), plainSteps(a, 8*(greatest%order))^6; got != want {
			t.Errorf("Join(%X, 6, %d) = %X, want %X", a, greatest, got, want)
		}
		far := greatest - 12345
		if got, want := join(t, a, 6, far), join(t, a, 6, far%order); got != want {
			t.Errorf("Join(%X, 6, %d) = %X, want %X", a, far, got, want)
		}
	}
}

func TestJoinFollows(t *testing.T) { // 2.6
	source := rand.New(rand.NewSource(26))
	for _, s := range texts() {
		cut := source.Intn(len(s) + 1)
		a, b := s[:cut], s[cut:]
		if got := join(t, CRC(a), CRC(b), len(b)); got != CRC(s) {
			t.Fatalf("%q cut at %d: %X, want %X", s, cut, got, CRC(s))
		}
	}
	for range 200 {
		a, n, m := source.Uint32(), source.Intn(1<<40), source.Intn(1<<40)
		if got, want := join(t, join(t, a, 0, n), 0, m), join(t, a, 0, n+m); got != want {
			t.Fatalf("%X by %d, then by %d: %X, want %X", a, n, m, got, want)
		}
	}
}

func TestCRCNearby(t *testing.T) { // 2.6: a change within four bytes side by side shows
	source := rand.New(rand.NewSource(62))
	for range 20000 {
		b := []byte(anyText(source, 1+source.Intn(60)))
		was := string(b)
		at := source.Intn(len(b))
		source.Read(b[at:min(at+4, len(b))])
		if got := string(b); got != was && CRC(got) == CRC(was) {
			t.Fatalf("%q and %q: both %X", was, got, CRC(was))
		}
	}
}

func four(n uint32) string {
	return string([]byte{byte(n), byte(n >> 8), byte(n >> 16), byte(n >> 24)})
}

// manyFours has enough texts of four bytes that of sums by chance some hundred would be alike.
const manyFours = 1 << 20

// alike is whether two of the sums of many texts of four bytes are the same.
func alike(of func(s string) uint32) bool {
	sums := make([]uint32, manyFours)
	for i := range sums {
		sums[i] = of(four(uint32(i) * 0x9E3779B1)) // an odd factor: no two are the same
	}
	slices.Sort(sums)
	return len(slices.Compact(sums)) < manyFours
}

func TestCRCOfFour(t *testing.T) { // 2.6
	if alike(CRC) {
		t.Error("two texts of four bytes have one CRC")
	}
}
