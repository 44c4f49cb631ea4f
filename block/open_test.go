package block

import (
	"math/rand"
	"slices"
	"strings"
	"testing"

	"dragnet/api"
	"dragnet/lz4"
	"dragnet/record"
)

func TestOpen(t *testing.T) { // 18.3
	b := sealed(t, fewHead, few)
	if h, l, e := Open(b); h != fewHead || !slices.Equal(l, few) || e != nil {
		t.Errorf("Open: %v, %v, %v", h, l, e)
	}
	for _, c := range []struct {
		b    string
		code api.Errno
		at   int
	}{
		{"", api.ErrShort, 0}, {b[:72], api.ErrShort, 72}, {b[:73], api.ErrShort, 73}, {b[:81], api.ErrShort, 81}, {b[:84], api.ErrShort, 84},
		{b + "x", api.ErrRest, 85}, {b + b, api.ErrRest, 85}, {with(b, 75, 'x') + "x", api.ErrRest, 85}, {with(b, 75, 'x')[:84], api.ErrShort, 84},
		{with(b, 0, 'd'), api.ErrMagic, 0}, {with(b, 20, b[20]^64), api.ErrSum, 69}, {with(b, 20, b[20]^64) + "x", api.ErrSum, 69}, {with(b, 75, b[75]^64), api.ErrSum, 81}, {with(b, 84, b[84]^64), api.ErrSum, 81},
	} {
		if h, l, e := Open(c.b); h != (api.Head{}) || len(l) > 0 || !same(e, &Fault{c.at, c.code}) {
			t.Errorf("Open(%x) = %v, %v, %v, want %v at %d", c.b, h, l, e, c.code, c.at)
		}
		holdsOpen(t, c.b)
	}
}

// literal is bytes as a packed text that takes them as they are.
func literal(s string) string {
	packed, _ := lz4.Compress(s, 0)
	return packed
}

// TestOpenPayload: what is packed is another thing, under a sum that is right.
func TestOpenPayload(t *testing.T) { // 18.3
	nines := strings.Repeat("\xff", 9)
	for _, c := range []struct {
		packed string
		raw    int
		code   api.Errno
		at     int
	}{
		{fewPacked, 8, api.ErrSize, 52}, {fewPacked, 131072, api.ErrSize, 52}, {"\x00", 1, api.ErrSize, 52},
		{fewPacked, 6, api.ErrMost, 73}, {"\x10\x01\x01\x00" + fewPacked, 11, api.ErrMost, 77}, {"\x1f\x01\x01\x00\xff\xff\x00", 200, api.ErrMost, 73},
		{"\x60\x02\x0a\x03\x02\x00ab", 7, api.ErrShort, 81}, {"\x80\x02\x0a\x03\x02\x00ab", 8, api.ErrShort, 81}, {"\xf0\xff", 999, api.ErrShort, 75}, {"\x10\x01\x01\x00", 9, api.ErrShort, 77},
		{"\x10\x01\x02\x00\x00", 9, api.ErrOffset, 75}, {"\x10\x01\x00\x00\x00", 9, api.ErrOffset, 75},
		{literal("\x01\x00"), 2, api.ErrShort, 73}, {literal("\x80\x00"), 2, api.ErrForm, 73}, {literal(nines + "\x02"), 10, api.ErrOver, 73}, {literal("\x01\x00\x01\n"), 4, api.ErrLine, 73}, {literal("\x01\x00\x81\x40"), 4, api.ErrLine, 73}, {literal("\x01\x01\x00"), 3, api.ErrStamp, 73}, {literal("\x02\x0a\x03\x02\x00abx"), 8, api.ErrRest, 73},
		{literal("\x00"), 1, api.ErrSize, 20}, {literal("\x01\x0a\x02ab"), 5, api.ErrSize, 20}, {literal("\x03\x0a\x03\x00\x00\x00\x00"), 7, api.ErrSize, 20},
		{literal("\x02\x0a\x01\x00\x00"), 5, api.ErrSize, 28}, {literal("\x02\x08\x00\x00\x00"), 5, api.ErrSize, 28}, {literal("\x02\x06\x02\x00\x00"), 5, api.ErrSize, 36}, {literal("\x02\x06\x06\x00\x00"), 5, api.ErrSize, 36},
		{"\x71\x02\x0a\x03\x02\x00ab", 7, api.ErrForm, 73}, {"\x50\x02\x0a\x03\x01\x01\x05\x00\x00", 9, api.ErrLine, 73},
	} {
		h := fewHead
		h.Raw, h.Packed = c.raw, len(c.packed)
		b := plainImage(plainNumbers(h), byte(h.Level), c.packed)
		if h, l, e := Open(b); h != (api.Head{}) || len(l) > 0 || !same(e, &Fault{c.at, c.code}) {
			t.Errorf("Open of the payload %x, %d bytes: %v, %v, %v, want %v at %d", c.packed, c.raw, h, l, e, c.code, c.at)
		}
		holdsOpen(t, b)
	}
}

// TestOpenNumbers: the head says other numbers, under a sum that is right.
func TestOpenNumbers(t *testing.T) { // 18.3
	may := plainNumbers(fewHead)
	for _, c := range []struct {
		word int
		n    uint64
		code api.Errno
		at   int
	}{
		{2, 1, api.ErrSize, 20}, {2, 3, api.ErrSize, 20}, {2, 131072, api.ErrSize, 20}, {3, 2, api.ErrSize, 28}, {3, 4, api.ErrSize, 28}, {3, 0, api.ErrSize, 28}, {4, 4, api.ErrSize, 36}, {4, 6, api.ErrSize, 36}, {4, api.MaxStamp, api.ErrSize, 36},
		{6, 6, api.ErrMost, 73}, {6, 8, api.ErrSize, 52}, {7, 7, api.ErrRest, 84}, {7, 9, api.ErrShort, 85}, {7, 131602, api.ErrShort, 85}, {7, 131603, api.ErrForm, 60},
	} {
		n := may
		n[c.word] = c.n
		b := plainImage(n, 1, fewPacked)
		if h, l, e := Open(b); h != (api.Head{}) || len(l) > 0 || !same(e, &Fault{c.at, c.code}) {
			t.Errorf("Open with the number %d at %d: %v, %v, %v, want %v at %d", c.n, c.word, h, l, e, c.code, c.at)
		}
		holdsOpen(t, b)
	}
	for word := range 8 {
		for other := range word {
			for _, first := range edges {
				for _, second := range []uint64{0, 1, 2, 3, 4, 6, 8, 9, 131072} {
					n := may
					n[word], n[other] = second, first
					holdsOpen(t, plainImage(n, 1, fewPacked))
				}
			}
		}
	}
}

// TestOpenLevel: a payload has one form alone at each level.
func TestOpenLevel(t *testing.T) { // 18.3
	l := []api.Line{{Text: "abcdXabcdefgh"}, {Text: "abcdeYYYYYYYYYYYYYYYYYYYYYYYYY"}, {Text: "abcdefghZabcde, abcdX abcdefghZabcde"}, {Text: "the last one"}}
	payload, _, _ := record.Encode(l)
	var forms []string
	for level := range 4 {
		packed, _ := lz4.Compress(payload, level)
		forms = append(forms, packed)
	}
	forms = append(forms, with(forms[0], 0, forms[0][0]|1))
	for told := range 3 {
		for i, packed := range forms {
			h := api.Head{Count: len(l), Level: told, Raw: len(payload), Packed: len(packed)}
			b := plainImage(plainNumbers(h), byte(told), packed)
			holdsOpen(t, b)
			_, _, e := Open(b)
			if packed == forms[told] && e != nil || packed != forms[told] && !same(e, &Fault{73, api.ErrForm}) {
				t.Errorf("form %d at the level %d: %v", i, told, e)
			}
		}
	}
	if forms[0] == forms[1] || forms[1] == forms[2] || forms[2] == forms[3] {
		t.Error("the levels make the same of it")
	}
}

// TestOpenForged: each byte of what is packed is each other one, under a sum that is right.
func TestOpenForged(t *testing.T) { // 18.3
	for _, l := range [][]api.Line{few, {{Stamp: 9, Text: "aaaaaaaaaaaaaaaaaaaaaaaaaaaaaaaa"}, {Stamp: 9}}, {{}}} {
		for level := range 3 {
			h := plainTold(api.Head{Level: level}, l)
			b := sealed(t, h, l)
			for at := 73; at < len(b)-4; at++ {
				for x := range 256 {
					packed := with(b, at, byte(x))[73 : len(b)-4]
					holdsOpen(t, plainImage(plainNumbers(h), byte(level), packed))
				}
			}
		}
	}
}

func TestOpenForgedByChance(t *testing.T) { // 18.3
	source := rand.New(rand.NewSource(183))
	for range 6000 {
		l := linesByChance(source, 6)
		h := plainTold(headByChance(source), l)
		payload, _, _ := record.Encode(l)
		if source.Intn(2) == 0 {
			payload = with(payload, source.Intn(len(payload)), byte(source.Intn(256)))
		}
		if source.Intn(4) == 0 {
			payload = payload[:source.Intn(len(payload)+1)]
		}
		packed, _ := lz4.Compress(payload, source.Intn(3))
		if source.Intn(4) == 0 {
			packed = with(packed, source.Intn(len(packed)), byte(source.Intn(256)))
		}
		h.Raw, h.Packed = len(payload)+source.Intn(9)/8, len(packed)
		n := plainNumbers(h)
		n[source.Intn(8)] += uint64(source.Intn(3) / 2)
		holdsOpen(t, plainImage(n, byte(h.Level), packed))
	}
}

// TestOpenSpoilt: one byte is another one, or bytes are missing, or more stand behind.
func TestOpenSpoilt(t *testing.T) { // 18.4
	source := rand.New(rand.NewSource(184))
	for n := range 4 {
		l := linesByChance(source, 4)
		if n == 0 {
			l = few
		}
		b := sealed(t, headByChance(source), l)
		for at := range len(b) {
			for x := range 256 {
				spoilt := with(b, at, byte(x))
				if h, l, e := Open(spoilt); spoilt != b && (e == nil || h != (api.Head{}) || len(l) > 0) {
					t.Fatalf("Open(%x) = %v, %v, %v: the byte at %d was %d", spoilt, h, l, e, at, b[at])
				}
				holdsOpen(t, spoilt)
			}
			if _, _, e := Open(b[:at]); !same(e, &Fault{at, api.ErrShort}) {
				t.Fatalf("Open of the first %d bytes: %v", at, e)
			}
		}
		for x := range 256 {
			if _, _, e := Open(b + string([]byte{byte(x)})); !same(e, &Fault{len(b), api.ErrRest}) {
				t.Fatalf("Open with %d behind: %v", x, e)
			}
		}
	}
}

func TestOpenOfSeal(t *testing.T) { // 18.4
	source := rand.New(rand.NewSource(185))
	lists := great()
	for range 600 {
		lists = append(lists, linesByChance(source, 60))
	}
	for _, l := range lists {
		for level := range 3 {
			h := headByChance(source)
			h.Level = level
			b := sealed(t, h, l)
			want := plainTold(h, l)
			got, lines, e := Open(b)
			if got != want || !slices.Equal(lines, l) || e != nil {
				t.Fatalf("Open of Seal of %d lines: %v, %d lines, %v, want %v", len(l), got, len(lines), e, want)
			}
			if look, e := Look(b); look != want || e != nil {
				t.Fatalf("Look of Seal of %d lines: %v, %v, want %v", len(l), look, e, want)
			}
			if again := sealed(t, got, lines); again != b {
				t.Fatalf("Seal of Open of %d lines is another image", len(l))
			}
		}
	}
}

func TestOpenAnyBytes(t *testing.T) { // 18.2, 18.3
	source := rand.New(rand.NewSource(186))
	for range 5000 {
		b := make([]byte, source.Intn(120))
		source.Read(b)
		if copy(b, "DRG1"); source.Intn(2) == 0 && len(b) >= 73 {
			copy(b[69:], plainSum(string(b[:69])))
		}
		holdsOpen(t, string(b))
	}
}

func TestOpenKeepsAway(t *testing.T) { // 18.3, P3, P4
	l := []api.Line{{Stamp: 1, Text: "a text of one"}, {Stamp: 2, Text: "a text of two"}}
	b := sealed(t, api.Head{}, l)
	_, one, _ := Open(b)
	_, other, _ := Open(b)
	if !slices.Equal(one, other) || standsIn(one[0].Text, b) || standsIn(one[0].Text, other[0].Text) {
		t.Error("two answers share their memory")
	}
	more := append(one, api.Line{})
	more[0].Text, one[1] = "x", api.Line{}
	if !slices.Equal(other, l) {
		t.Errorf("what was answered has changed: %v", other)
	}
}
