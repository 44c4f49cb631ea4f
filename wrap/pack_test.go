package wrap

import (
	"fmt"
	"math"
	"math/rand"
	"strings"
	"testing"
	"unsafe"

	"dragnet/api"
	"dragnet/lz4"
)

// plainPack writes what 5.1 says.
func plainPack(s string, o api.Wrap) string {
	flags := "011"
	for _, on := range []bool{o.Blocks, o.Length, o.Sum} {
		if on {
			flags += "1"
		} else {
			flags += "0"
		}
	}
	var number int
	fmt.Sscanf(flags+"00", "%b", &number)
	bits := string([]byte{byte(number), byte(o.Size * 16)})
	if o.Length {
		bits += low8(uint64(len(s)))
	}
	out := head(bits)
	lid := map[int]int{4: 65536, 5: 262144, 6: 1048576, 7: 4194304}[o.Size]
	for rest := s; rest != ""; {
		piece := rest[:min(lid, len(rest))]
		rest = rest[len(piece):]
		block := plain(piece)
		if b, _ := lz4.Compress(piece, o.Level); len(b) < len(piece) {
			block = packed(b)
		}
		if o.Blocks {
			block = summed(block)
		}
		out += block
	}
	out += noughts
	if o.Sum {
		out += plainSum(s)
	}
	return out
}

// eachWrap calls with all ways to write a frame of that size.
func eachWrap(size int, do func(o api.Wrap)) {
	for level := range 3 {
		for bits := range 8 {
			do(api.Wrap{Level: level, Size: size, Blocks: bits&1 != 0, Length: bits&2 != 0, Sum: bits&4 != 0})
		}
	}
}

// holdsPack holds Pack against the chapter's words, and against the way back (5.5).
func holdsPack(t *testing.T, s string, o api.Wrap) {
	t.Helper()
	what := fmt.Sprintf("Pack(%.40q of %d bytes, %+v)", s, len(s), o)
	got, e := Pack(s, o)
	isFault(t, what, e, api.OK, 0)
	if want := plainPack(s, o); got != want {
		t.Fatalf("%s = %.60x, want %.60x", what, got, want)
	}
	for _, most := range []int{len(s), len(s) + 1, math.MaxInt} {
		if back, e := Unpack(got, most); back != s || e != nil {
			t.Fatalf("%s, unpacked with %d: %.40q, %v", what, most, back, e)
		}
	}
}

func TestPackExamples(t *testing.T) { // 5.1
	for _, c := range []struct {
		s    string
		o    api.Wrap
		want string
	}{
		{"", api.Wrap{Level: 1, Size: 4}, emptyFrame},
		{"abc", api.Wrap{Level: 1, Size: 4}, abcFrame},
		{"abc", api.Wrap{Level: 1, Size: 4, Sum: true}, "\x04\x22\x4d\x18\x64\x40\xa7\x03\x00\x00\x80abc\x00\x00\x00\x00\xff\x53\xd1\x32"},
		{strings.Repeat("GET /a status=200\n", 3), api.Wrap{Level: 1, Size: 4}, magic + "\x60\x40\x82\x1d\x00\x00\x00\xff\x03GET /a status=200\n\x12\x00\x0c\x50=200\n" + noughts},
		{strings.Repeat("GET /a status=200\n", 3), api.Wrap{Level: 2, Size: 4, Blocks: true, Length: true, Sum: true}, magic + "\x7c\x40\x36\x00\x00\x00\x00\x00\x00\x00\xdc\x1d\x00\x00\x00\xff\x03GET /a status=200\n\x12\x00\x0c\x50=200\n\xc5\x36\x6a\xce" + noughts + "\x07\x09\xc3\x06"},
	} {
		got, e := Pack(c.s, c.o)
		isFault(t, "Pack", e, api.OK, 0)
		if got != c.want {
			t.Errorf("Pack(%q, %+v) = %x, want %x", c.s, c.o, got, c.want)
		}
	}
}

func TestPackRefuses(t *testing.T) { // 5.1
	for _, o := range []api.Wrap{
		{Level: -1, Size: 4}, {Level: 3, Size: 4}, {Level: math.MinInt, Size: 4}, {Level: math.MaxInt, Size: 7},
		{Size: 3}, {Size: 8}, {Size: 0}, {Size: -4}, {Size: math.MinInt}, {Size: math.MaxInt}, {Size: 260}, {Level: 9, Size: 9},
	} {
		for _, s := range []string{"", "abc"} {
			o.Sum, o.Length, o.Blocks = true, true, true
			got, e := Pack(s, o)
			isFault(t, fmt.Sprintf("Pack(%q, %+v)", s, o), e, api.ErrArg, 0)
			if got != "" {
				t.Errorf("Pack(%q, %+v) = %x with an error", s, o, got)
			}
		}
	}
}

func TestPack(t *testing.T) { // 5.1, 5.5
	source := rand.New(rand.NewSource(51))
	for size := 4; size <= 7; size++ {
		eachWrap(size, func(o api.Wrap) {
			for _, n := range []int{0, 1, 12, 13, 40, 1000} {
				holdsPack(t, anyBytes(source, n), o)
				holdsPack(t, anyText(source, "ab", n), o)
				holdsPack(t, strings.Repeat("\x00", n), o)
			}
		})
	}
}

func TestPackPieces(t *testing.T) { // 5.1, 5.5: texts about the lid, whose pieces are packed, stored, and both
	source := rand.New(rand.NewSource(52))
	anything := anyBytes(source, 65536)
	eachWrap(4, func(o api.Wrap) { holdsPack(t, lines[:65536]+anything+lines[:1], o) })
	for level := range 3 {
		o := api.Wrap{Level: level, Size: 4, Blocks: true, Length: true, Sum: true}
		for _, n := range []int{65535, 65536, 65537, 131071, 131072, 131073} {
			holdsPack(t, lines[:n], o)
			holdsPack(t, (anything + lines)[:n], o)
		}
	}
	for size, lid := range map[int]int{5: 262144, 6: 1048576, 7: 4194304} {
		for _, n := range []int{lid - 1, lid, lid + 1, 2*lid + 20} {
			holdsPack(t, strings.Repeat("0123456789", lid/4)[:n], api.Wrap{Level: 1, Size: size, Blocks: true, Length: true, Sum: true})
		}
	}
}

func TestPackStoresWhatIsNotShorter(t *testing.T) { // 5.1
	seen := map[int]bool{}
	for n := range 25 {
		for count := 4; count < 12; count++ {
			unit := "0123456789ABCDEFGHIJKLMNOPQRSTUVWXYZ"[:n+count]
			s := unit + unit[:count] + "abcdefghijkl"
			b, _ := lz4.Compress(s, 1)
			if beyond := len(b) - len(s); beyond >= -1 && beyond <= 1 {
				seen[beyond] = true
			}
			eachWrap(4, func(o api.Wrap) { holdsPack(t, s, o) })
		}
	}
	if len(seen) != 3 {
		t.Errorf("not each edge was seen: %v", seen)
	}
}

func TestPackIsNew(t *testing.T) { // P3, P4
	s := strings.Clone("some text that can't be packed")
	b, _ := Pack(s, api.Wrap{Size: 4})
	again, _ := Pack(s, api.Wrap{Size: 4})
	if b != again || unsafe.StringData(b) == unsafe.StringData(again) {
		t.Errorf("Pack twice: %x and %x", b, again)
	}
	text, _ := Unpack(b, 100)
	if text != s || within(text, b) {
		t.Errorf("Unpack tells a part of what it was given")
	}
}

// within tells whether a text is a part of another one's memory.
func within(s, of string) bool {
	at := uintptr(unsafe.Pointer(unsafe.StringData(s)))
	from := uintptr(unsafe.Pointer(unsafe.StringData(of)))
	return len(s) > 0 && at >= from && at < from+uintptr(len(of))
}
