package code

import (
	"math/big"
	"math/rand"
	"strings"

	"dragnet/api"
)

// The plain forms here do what the chapter's words say, by great numbers and by bits as texts; the calls are held against them.

const (
	greatest = int(^uint(0) >> 1)
	least    = -greatest - 1
)

func number(n uint64) *big.Int { return new(big.Int).SetUint64(n) }

// lowestFirst cuts n into groups of so many bits.
func lowestFirst(n *big.Int, bits uint) []byte {
	out := []byte{}
	for size := big.NewInt(1 << bits); n.Sign() > 0; {
		group := new(big.Int)
		n, group = new(big.Int).DivMod(n, size, group)
		out = append(out, byte(group.Int64()))
	}
	return out
}

func plainNumber(n *big.Int) string {
	groups := lowestFirst(n, 7)
	if len(groups) == 0 {
		groups = []byte{0}
	}
	for i := range len(groups) - 1 {
		groups[i] += 128
	}
	return string(groups)
}

func plainUint(n uint64) string { return plainNumber(number(n)) }

// plainWritten is the number as which an int is written.
func plainWritten(n int) *big.Int {
	twice := new(big.Int).Mul(big.NewInt(int64(n)), big.NewInt(2))
	if n >= 0 {
		return twice
	}
	return new(big.Int).Sub(new(big.Int).Neg(twice), big.NewInt(1))
}

// plainRead is what Uint reads at the front of b, and how many bytes that takes.
func plainRead(b string) (uint64, api.Errno, int) {
	sum := new(big.Int)
	for i := 0; ; i++ {
		if i == len(b) {
			return 0, api.ErrShort, 0
		}
		if i == 9 && b[i] > 1 {
			return 0, api.ErrOver, 0
		}
		if i > 0 && b[i] == 0 {
			return 0, api.ErrForm, 0
		}
		group := big.NewInt(int64(b[i]) % 128)
		sum.Add(sum, group.Lsh(group, uint(7*i)))
		if b[i] < 128 {
			return sum.Uint64(), api.OK, i + 1
		}
	}
}

const plainCharacters = "ABCDEFGHIJKLMNOPQRSTUVWXYZ" + "abcdefghijklmnopqrstuvwxyz" + "0123456789" + "-" + "_"

// bitsOf is n as so many digits 0 and 1, the highest first.
func bitsOf(n, digits int) string {
	out := ""
	for range digits {
		out = string(rune('0'+n%2)) + out
		n /= 2
	}
	return out
}

func ofBits(s string) int {
	n := 0
	for _, digit := range s {
		n = 2*n + int(digit-'0')
	}
	return n
}

func plainArmor(s string) string {
	var all, out strings.Builder
	for i := range len(s) {
		all.WriteString(bitsOf(int(s[i]), 8))
	}
	for left := all.String(); left != ""; {
		group := left[:min(6, len(left))]
		left = left[len(group):]
		group += strings.Repeat("0", 6-len(group))
		out.WriteByte(plainCharacters[ofBits(group)])
	}
	return out.String()
}

func plainPlain(s string) (string, api.Errno, int) {
	var all strings.Builder
	for i := range len(s) {
		number := strings.IndexByte(plainCharacters, s[i])
		if number < 0 {
			return "", api.ErrChar, i
		}
		all.WriteString(bitsOf(number, 6))
	}
	if len(s)%4 == 1 {
		return "", api.ErrShort, len(s)
	}
	out, left := []byte{}, all.String()
	for ; len(left) >= 8; left = left[8:] {
		out = append(out, byte(ofBits(left[:8])))
	}
	if strings.Contains(left, "1") {
		return "", api.ErrForm, len(s) - 1
	}
	return string(out), api.OK, 0
}

// numbers are those at which a byte more is needed, those beside them, and some of each length.
func numbers() []uint64 {
	source := rand.New(rand.NewSource(3))
	out := []uint64{0, 1, 2, 300, 1<<64 - 1, 1<<64 - 2}
	for bits := range 64 {
		edge := uint64(1) << bits
		out = append(out, edge-1, edge, edge+1, edge|source.Uint64()%edge)
	}
	return out
}

// ints are those of numbers, and as many below 0.
func ints() []int {
	out := []int{least, least + 1, greatest, greatest - 1}
	for _, n := range numbers() {
		out = append(out, int(n), -int(n), -int(n)-1)
	}
	return out
}

func texts() []string {
	source := rand.New(rand.NewSource(33))
	out := []string{"", "\x00", "\xff", "ab", "\x80\x00"}
	for n := range 70 {
		out = append(out, anyText(source, n), strings.Repeat("\x00", n), strings.Repeat("\xff", n))
	}
	for _, n := range []int{126, 127, 128, 129, 16383, 16384, 16385} {
		out = append(out, anyText(source, n))
	}
	return out
}

func anyText(source *rand.Rand, n int) string {
	b := make([]byte, n)
	source.Read(b)
	return string(b)
}

// spelt is the texts of up to so many bytes, each one of the letters.
func spelt(letters string, most int) []string {
	out, longest := []string{""}, []string{""}
	for range most {
		var longer []string
		for _, s := range longest {
			for i := range len(letters) {
				longer = append(longer, s+letters[i:i+1])
			}
		}
		out, longest = append(out, longer...), longer
	}
	return out
}

// anyBytes has each text of up to two bytes, and those in which a number may begin, go on, end or be refused at each of its bytes.
func anyBytes() []string {
	var all strings.Builder
	for b := range 256 {
		all.WriteByte(byte(b))
	}
	out := spelt(all.String(), 2)
	few := spelt("\x00\x01\x02\x7f\x80\x81\xff", 3)
	for n := range 11 {
		for _, end := range few {
			out = append(out, strings.Repeat("\x80", n)+end, strings.Repeat("\xff", n)+end)
		}
	}
	return out
}
