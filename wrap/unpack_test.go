package wrap

import (
	"fmt"
	"math"
	"math/rand"
	"runtime"
	"strings"
	"testing"

	"dragnet/api"
	"dragnet/lz4"
)

// tells holds Unpack against a code and a place that are written out, and against the plain reader, and the Stream too.
func tells(t *testing.T, b string, most int, want string, code api.Errno, at int) {
	t.Helper()
	got, e := Unpack(b, most)
	isFault(t, fmt.Sprintf("Unpack(%.200x, %d)", b, most), e, code, at)
	if got != want {
		t.Fatalf("Unpack(%.200x, %d) = %.60q, want %.60q", b, most, got, want)
	}
	if most < 0 {
		return
	}
	holdsAll(t, rand.New(rand.NewSource(int64(len(b)))), b, most)
}

func TestFault(t *testing.T) { // the chapter's head
	f := &Fault{At: 12, Code: api.ErrShort}
	if f.Unwrap() != api.ErrShort {
		t.Errorf("Unwrap: %v", f.Unwrap())
	}
	if s := f.Error(); !strings.Contains(s, "30") || !strings.Contains(s, "12") {
		t.Errorf("Error: %q", s)
	}
}

func TestUnpackExamples(t *testing.T) { // 5.2
	tells(t, "", 0, "", api.OK, 0)
	tells(t, emptyFrame, 0, "", api.OK, 0)
	tells(t, abcFrame, 3, "abc", api.OK, 0)
	tells(t, emptyFrame+"\x04", 9, "", api.ErrShort, 12)
	tells(t, "\x05\x22\x4d\x18", 9, "", api.ErrMagic, 0)
	tells(t, "\x04\x22\x4d", 9, "", api.ErrShort, 3)
	tells(t, magic+"\x61\x40\x82"+noughts, 9, "", api.ErrFlags, 4)
	tells(t, magic+"\x60\x30\x82"+noughts, 9, "", api.ErrSize, 5)
	tells(t, magic+"\x60\x40\x83"+noughts, 9, "", api.ErrHead, 6)
	tells(t, magic+"\x60\x40\x82\x00\x00\x00\x80", 9, "", api.ErrSize, 7)
	tells(t, abcFrame, 2, "", api.ErrMost, 7)
	tells(t, "\x5a\x2a\x4d\x18\x02\x00\x00\x00\xff\xff"+abcFrame, 9, "abc", api.OK, 0)
	for _, most := range []int{-1, math.MinInt} {
		tells(t, "", most, "", api.ErrArg, 0)
		tells(t, "x", most, "", api.ErrArg, 0)
		tells(t, abcFrame, most, "", api.ErrArg, 0)
	}
}

func TestUnpackPublished(t *testing.T) { // 5.2: what another packer made
	for b, want := range published() {
		tells(t, b, len(want), want, api.OK, 0)
		tells(t, b+b, 2*len(want), want+want, api.OK, 0)
	}
}

func TestUnpackMagic(t *testing.T) { // 5.2: each byte of a magic, and both kinds
	for at := range 4 {
		for x := range 256 {
			for _, m := range []string{magic, "\x5a\x2a\x4d\x18"} {
				b := []byte(abcFrame + m + "\x00\x00\x00\x00")
				b[len(abcFrame)+at] = byte(x)
				holdsUnpack(t, string(b), 9)
				holdsUnpack(t, string(b[:len(b)-4]), 9)
			}
		}
	}
	tells(t, abcFrame+"\x4f\x2a\x4d\x18", 9, "", api.ErrMagic, 18)
	tells(t, abcFrame+"\x60\x2a\x4d\x18", 9, "", api.ErrMagic, 18)
	tells(t, abcFrame+"abc", 9, "", api.ErrShort, 21)
	tells(t, abcFrame+"abcd", 9, "", api.ErrMagic, 18)
}

func TestUnpackFlags(t *testing.T) { // 5.2: all flags and all sizes, the check right
	for flags := range 256 {
		for size := range 256 {
			bits := string([]byte{byte(flags), byte(size)})
			if flags&0x08 != 0 {
				bits += low8(0)
			}
			b := head(bits) + noughts
			if flags&0x04 != 0 {
				b += plainSum("")
			}
			holdsUnpack(t, b, 0)
		}
	}
	for _, flags := range []string{"\x20", "\xe0", "\xa0", "\x62", "\x61", "\x63"} {
		tells(t, magic+flags, 9, "", api.ErrFlags, 4) // as soon as it is there
		tells(t, magic+flags+"\xff", 9, "", api.ErrFlags, 4)
	}
	for _, size := range []string{"\xc0", "\x41", "\x42", "\x44", "\x48", "\x81", "\x31", "\xff"} {
		tells(t, magic+"\x60"+size, 9, "", api.ErrFlags, 5)
	}
	for _, size := range []string{"\x00", "\x10", "\x20", "\x30"} {
		tells(t, magic+"\x60"+size, 9, "", api.ErrSize, 5)
	}
}

func TestUnpackHead(t *testing.T) { // 5.2: all checks, with the length and without
	for x := range 256 {
		for _, bits := range []string{bits4, "\x68\x40" + low8(3)} {
			b := magic + bits + string([]byte{byte(x)}) + plain("abc") + noughts
			holdsUnpack(t, b, 3)
		}
	}
	tells(t, magic+"\x68\x40"+low8(3)+"\x00", 9, "", api.ErrHead, 14)
}

func TestUnpackNumber(t *testing.T) { // 5.2: blocks about the lid
	for size, lid := range map[string]int{"\x40": 65536, "\x50": 262144, "\x60": 1048576, "\x70": 4194304} {
		h := head("\x60" + size)
		full := strings.Repeat("0123456789", lid/10+1)[:lid]
		if got, e := Unpack(h+plain(full)+noughts, lid); got != full || e != nil {
			t.Errorf("a stored block of %d bytes: %d, %v", lid, len(got), e)
		}
		tells(t, h+low4(lid+1), 9, "", api.ErrSize, 7)
		tells(t, h+low4(lid+1|1<<31), 9, "", api.ErrSize, 7)
		tells(t, h+low4(lid), 9, "", api.ErrShort, 11)
		tells(t, h+low4(lid|1<<31), 9, "", api.ErrShort, 11)
		tells(t, h+plain("abc")+low4(1<<31), 9, "", api.ErrSize, 14)
		tells(t, h+"\xff\xff\xff\x7f", 9, "", api.ErrSize, 7)
		tells(t, h+"\xff\xff\xff\xff", 9, "", api.ErrSize, 7)

		b, _ := lz4.Compress(strings.Repeat("a", lid), 1)
		if got, e := Unpack(h+packed(b)+noughts, lid); len(got) != lid || e != nil {
			t.Errorf("a packed block of %d bytes: %d, %v", lid, len(got), e)
		}
		b, _ = lz4.Compress(strings.Repeat("a", lid+1), 1)
		_, e := Unpack(h+packed(b)+noughts, math.MaxInt)
		isFault(t, "a packed block that says more than the lid", e, api.ErrMost, 11+len(b)-6) // at the token of the last five
	}
}

func TestUnpackBlockSum(t *testing.T) { // 5.2: it is looked at ahead of the bytes, and of most
	h := head("\x70\x40")
	tells(t, h+summed(plain("abc"))+noughts, 3, "abc", api.OK, 0)
	tells(t, h+plain("abc")+"\x00\x00\x00\x00"+noughts, 3, "", api.ErrSum, 14)
	tells(t, h+plain("abc")+"\x00\x00\x00\x00"+noughts, 0, "", api.ErrSum, 14)
	tells(t, h+packed("\x10a\x02\x00\x00")+"\x00\x00\x00\x00"+noughts, 9, "", api.ErrSum, 16)
	tells(t, h+summed(packed("\x10a\x02\x00\x00"))+noughts, 9, "", api.ErrOffset, 13)
	tells(t, h+packed("\x10a\x02\x00\x00"), 9, "", api.ErrShort, 16) // it is not whole without its sum
	tells(t, h+packed("\x10a\x02\x00\x00")+"\x00\x00\x00", 9, "", api.ErrShort, 19)
	tells(t, h+plain("abc"), 0, "", api.ErrShort, 14)
}

func TestUnpackPacked(t *testing.T) { // 5.2: what lz4 tells, at its place
	h := head(bits4)
	tells(t, h+packed("\x10a\x01\x00\x00")+noughts, 5, "aaaaa", api.OK, 0)
	tells(t, h+packed("\x00")+noughts, 0, "", api.OK, 0)
	tells(t, h+packed("\x10a\x02\x00\x00")+noughts, 9, "", api.ErrOffset, 13)
	tells(t, h+packed("\x20a")+noughts, 9, "", api.ErrShort, 13)
	tells(t, h+packed("\x10a\x01\x00")+noughts, 9, "", api.ErrShort, 15)
	tells(t, h+packed("\x10a\x02\x00\x00"), 0, "", api.ErrOffset, 13)
	tells(t, h+plain("xyz")+packed("\x10a\x00\x00\x00"), 9, "", api.ErrOffset, 20)
	tells(t, abcFrame+h+packed("\x10a\x02\x00\x00"), 9, "", api.ErrOffset, 31)
}

func TestUnpackReach(t *testing.T) { // how far blocks that are not alone reach
	back := func(offset int) string { return packed("\x00" + low4(offset)[:2] + "\x00") }
	together, apart := head("\x40\x40"), head(bits4)
	tells(t, together+plain("wxyz")+back(4)+noughts, 9, "wxyzwxyz", api.OK, 0)
	tells(t, together+plain("wx")+plain("yz")+back(4)+back(8)+noughts, 99, "wxyzwxyzwxyz", api.OK, 0)
	tells(t, together+plain("wxyz")+back(5)+noughts, 9, "", api.ErrOffset, 20)
	tells(t, together+back(1)+noughts, 9, "", api.ErrOffset, 12)
	tells(t, apart+plain("wxyz")+back(4)+noughts, 9, "", api.ErrOffset, 20)
	tells(t, together+plain("wxyz")+noughts+together+back(1)+noughts, 9, "", api.ErrOffset, 19+12)
	source := rand.New(rand.NewSource(53))
	for _, sizes := range [][]int{{65535}, {65536}, {65534}, {65534, 1}, {40000, 40000}, {1, 65534}, {60000, 5000, 536}, {65536, 65536}} {
		b := together
		for _, n := range sizes {
			b += plain(anyBytes(source, n))
		}
		for _, offset := range []int{65535, 65534, 65533, 5536, 1} {
			holdsAll(t, source, b+back(offset)+back(65535)+noughts, math.MaxInt)
		}
	}
}

func TestUnpackManyShort(t *testing.T) { // many blocks that reach as far back as can be
	const count = 40000
	text := []byte(anyBytes(rand.New(rand.NewSource(57)), 65536))
	b := head("\x44\x40") + plain(string(text)) + strings.Repeat(packed("\x00\xff\xff\x00"), count) + noughts
	for range 4 * count {
		text = append(text, text[len(text)-65535])
	}
	got, e := Unpack(b+plainSum(string(text)), len(text))
	if got != string(text) || e != nil {
		t.Errorf("%d bytes of %d, %v", len(got), len(text), e)
	}
}

func TestUnpackLength(t *testing.T) { // 5.2: a text that is longer or shorter than told
	told := func(n uint64) string { return head("\x68\x40" + low8(n)) }
	tells(t, told(3)+plain("abc")+noughts, 3, "abc", api.OK, 0)
	tells(t, told(2)+plain("abc")+noughts, 3, "", api.ErrSize, 15)
	tells(t, told(2)+plain("abc"), 2, "", api.ErrSize, 15) // ahead of ErrMost
	tells(t, told(3)+plain("abc"), 2, "", api.ErrMost, 15)
	tells(t, told(2)+plain("ab")+plain("c"), 2, "", api.ErrSize, 21)
	tells(t, told(2)+plain("ab")+packed("\x00")+noughts, 2, "ab", api.OK, 0)
	tells(t, told(2)+packed("\x10a\x01\x00\x00"), 9, "", api.ErrSize, 15)
	tells(t, told(4)+plain("abc")+noughts, 9, "", api.ErrSize, 22)
	tells(t, told(1)+noughts, 9, "", api.ErrSize, 15)
	tells(t, told(0)+noughts, 0, "", api.OK, 0)
	tells(t, told(1)+plain("a"), 1, "", api.ErrShort, 20)
	for _, n := range []uint64{1 << 32, 1<<32 + 3, 1 << 63, 1<<63 + 3, math.MaxUint64} {
		tells(t, told(n)+plain("abc")+noughts, math.MaxInt, "", api.ErrSize, 22)
	}
}

func TestUnpackMost(t *testing.T) { // 5.2: of all texts together
	two := abcFrame + passedOver(0x5f, "wxyz") + head(bits4) + plain("de") + packed("\x10f") + noughts
	tells(t, two, 6, "abcdef", api.OK, 0)
	tells(t, two, math.MaxInt, "abcdef", api.OK, 0)
	tells(t, two, 5, "", api.ErrMost, 18+12+7+6)
	for _, most := range []int{3, 4} {
		tells(t, two, most, "", api.ErrMost, 18+12+7)
	}
	tells(t, two, 0, "", api.ErrMost, 7)
}

func TestUnpackTextSum(t *testing.T) { // 5.2: of each frame's own text
	h := head("\x64\x40")
	tells(t, h+plain("abc")+noughts+plainSum("abc"), 3, "abc", api.OK, 0)
	tells(t, h+plain("ab")+plain("c")+noughts+plainSum("abc")+h+plain("d")+noughts+plainSum("d"), 4, "abcd", api.OK, 0)
	tells(t, h+noughts+plainSum(""), 0, "", api.OK, 0)
	tells(t, h+plain("abc")+noughts+plainSum("abd"), 3, "", api.ErrSum, 18)
	tells(t, h+plain("abc")+noughts+plainSum("abc")[:3], 3, "", api.ErrShort, 21)
	tells(t, h+plain("abc")+noughts, 3, "", api.ErrShort, 18)
}

func TestUnpackPassedOver(t *testing.T) { // 5.2, 5.5
	for first := 0x50; first <= 0x5f; first++ {
		for n := range 9 {
			x := passedOver(byte(first), abcFrame[:n])
			tells(t, x, 0, "", api.OK, 0)
			tells(t, x+abcFrame+x+x+abcFrame+x, 6, "abcabc", api.OK, 0)
			tells(t, abcFrame+x[:len(x)-1], 3, "", api.ErrShort, 18+len(x)-1)
		}
	}
	for _, n := range []string{"\xff\xff\xff\xff", "\x00\x00\x00\x80", "\xff\xff\xff\x7f"} {
		tells(t, "\x50\x2a\x4d\x18"+n+abcFrame, 9, "", api.ErrShort, 26)
	}
}

func TestUnpackEnds(t *testing.T) { // 5.2: all that is cut off
	source := rand.New(rand.NewSource(54))
	var all string
	for _, b := range []string{emptyFrame, abcFrame, passedOver(0x53, "pass"), head("\x5c\x50"+low8(12)) + summed(plain("wxyz")) + summed(packed("\x10a\x01\x00\x30bcd")) + noughts + plainSum("wxyzaaaaabcd")} {
		all += b
		for n := range len(all) + 1 {
			holdsAll(t, source, all[:n], 15)
		}
	}
	tells(t, all, 15, "abcwxyzaaaaabcd", api.OK, 0)
}

func TestUnpackOneByteChanged(t *testing.T) { // 5.2, T4: each byte of a frame, as each other one
	for _, b := range []string{
		head("\x5c\x50"+low8(12)) + summed(plain("wxyz")) + summed(packed("\x10a\x01\x00\x30bcd")) + noughts + plainSum("wxyzaaaaabcd"),
		head("\x48\x40"+low8(12)) + plain("wxyz") + packed("\x10a\x01\x00\x30bcd") + noughts,
		head("\x40\x40") + plain("wxyz") + packed("\x00\x04\x00\x1fa\x02\x00\x0d\x30bcd") + noughts + passedOver(0x53, "pass") + abcFrame,
	} {
		for at := range len(b) {
			for x := range 256 {
				holdsUnpack(t, b[:at]+string([]byte{byte(x)})+b[at+1:], 99)
				holdsUnpack(t, b[:at]+string([]byte{byte(x)})+b[at+1:], 8)
			}
		}
	}
}

func TestUnpackAnything(t *testing.T) { // 5.2, 5.3, T4
	source := rand.New(rand.NewSource(55))
	for range 15000 {
		b := ""
		for range 1 + source.Intn(3) {
			b += anyFrame(source)
		}
		for range source.Intn(3) {
			holdsAll(t, source, b, source.Intn(60))
			b = changed(source, b)
		}
		holdsAll(t, source, b, 1000)
	}
	for n := range 300 {
		holdsAll(t, source, anyBytes(source, n%40), 99)
		holdsAll(t, source, magic+anyBytes(source, n%40), 99)
		holdsAll(t, source, head(bits4)+anyText(source, "\x00\x01\x80\x10a", n%40), 99)
	}
}

func TestUnpackSpoiled(t *testing.T) { // 5.5: with block sums, a byte of a block or of its sum
	s := lines[:100000]
	b, _ := Pack(s, api.Wrap{Level: 1, Size: 4, Blocks: true, Sum: true})
	at := 7
	for ahead := 0; ahead < len(s); ahead += 65536 {
		count := int(lowFirst(b[at:at+4]) % (1 << 31))
		for i := at + 4; i < at+4+count+4; i++ {
			bad := []byte(b)
			bad[i] ^= byte(1 << (i % 8))
			for _, most := range []int{ahead, ahead + 1, len(s)} {
				got, e := Unpack(string(bad), most)
				isFault(t, fmt.Sprintf("the byte %d changed", i), e, api.ErrSum, at+4+count)
				if got != "" {
					t.Fatalf("%d bytes with an error", len(got))
				}
			}
		}
		at += 4 + count + 4
	}
}

func TestUnpackSpoiledText(t *testing.T) { // 5.5: at the level 0 with the text's sum alone
	s := "a text of one block, as it is"
	b, _ := Pack(s, api.Wrap{Level: 0, Size: 4, Sum: true})
	for i := range len(s) {
		for x := range 256 {
			bad := []byte(b)
			bad[11+i] = byte(x)
			code, at := api.ErrSum, len(b)-4
			if b[11+i] == byte(x) {
				code, at = api.OK, 0
			}
			_, e := Unpack(string(bad), len(s))
			isFault(t, "a byte changed", e, code, at)
		}
	}
}

// laidOut is how many bytes a call lays out.
func laidOut(do func()) uint64 {
	var ahead, behind runtime.MemStats
	runtime.ReadMemStats(&ahead)
	do()
	runtime.ReadMemStats(&behind)
	return behind.TotalAlloc - ahead.TotalAlloc
}

func TestUnpackLaysNothingOutAhead(t *testing.T) { // 5.2
	for _, b := range []string{
		head("\x68\x70"+low8(1<<40)) + plain("abc") + noughts,
		head("\x68\x70"+low8(1<<30)) + plain("abc"),
		"\x50\x2a\x4d\x18\xff\xff\xff\x7fabc",
		head("\x60\x70") + low4(4194304) + "abc",
	} {
		if n := laidOut(func() { Unpack(b, math.MaxInt) }); n > 1<<20 {
			t.Errorf("Unpack(%x) lays out %d bytes", b, n)
		}
	}
}
