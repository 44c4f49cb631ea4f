package wrap

import (
	"math"
	"math/rand"
	"strings"
	"testing"
	"unsafe"

	"dragnet/api"
)

// feeds feeds a piece that is no fault.
func feeds(t *testing.T, s *Stream, b, want string) {
	t.Helper()
	got, e := s.Feed(b)
	isFault(t, "Feed", e, api.OK, 0)
	if got != want {
		t.Fatalf("Feed(%.60x) = %.60q, want %.60q", b, got, want)
	}
}

func started(t *testing.T, most int) *Stream {
	t.Helper()
	s, e := New(most)
	isFault(t, "New", e, api.OK, 0)
	return s
}

func TestNew(t *testing.T) { // 5.3
	for _, most := range []int{-1, -100, math.MinInt} {
		s, e := New(most)
		isFault(t, "New", e, api.ErrArg, 0)
		if s != nil {
			t.Errorf("New(%d) gives one out", most)
		}
	}
	for _, most := range []int{0, 1, math.MaxInt} {
		isFault(t, "Close of one to which nothing was fed", started(t, most).Close(), api.OK, 0)
	}
}

func TestFeedExample(t *testing.T) { // 5.3, 5.4
	s := started(t, 100)
	feeds(t, s, abcFrame[:13], "")
	feeds(t, s, "\x63", "abc")
	isFault(t, "Close", s.Close(), api.ErrShort, 14)
	isShut(t, s)
}

func TestFeedFaults(t *testing.T) { // 5.3: the texts ahead of a fault come with it, and the place is counted from the first byte
	for _, c := range []struct {
		ahead, b string
		most     int
		want     string
		code     api.Errno
		at       int
	}{
		{"", "\x05\x22\x4d\x18", 9, "", api.ErrMagic, 0},
		{abcFrame[:14], "\x00\x00\x00\x00xxxx", 9, "", api.ErrMagic, 18},
		{"", abcFrame + abcFrame, 3, "abc", api.ErrMost, 25},
		{abcFrame + magic[:2], magic[2:] + "\x60\x40\x82" + plain("de") + plain("f") + low4(1<<31), 9, "def", api.ErrSize, 36},
		{head("\x70\x40") + summed(plain("abc")) + plain("de") + "\x00\x00\x00", "\x00" + abcFrame, 9, "", api.ErrSum, 24},
		{head("\x64\x40"), plain("abc") + noughts + "\x00\x00\x00\x00" + abcFrame, 9, "abc", api.ErrSum, 18},
		{head("\x40\x40") + plain("abc"), packed("\x00\x01\x00\x00") + packed("\x20a") + noughts, 9, "cccc", api.ErrShort, 28},
		{passedOver(0x50, "0123456"), "\x60\x2a\x4d\x18", 9, "", api.ErrMagic, 15},
	} {
		s := started(t, c.most)
		_, e := s.Feed(c.ahead)
		isFault(t, "Feed", e, api.OK, 0)
		got, e := s.Feed(c.b)
		isFault(t, "Feed", e, c.code, c.at)
		if got != c.want {
			t.Errorf("Feed(%x) = %q, want %q", c.b, got, c.want)
		}
		_, told := Unpack(c.ahead+c.b, c.most)
		isFault(t, "Unpack", told, c.code, c.at)
		isShut(t, s)
	}
}

func TestFeedNothing(t *testing.T) { // 5.3
	s := started(t, 3)
	for at := range len(abcFrame) {
		feeds(t, s, "", "")
		want := ""
		if at == 13 {
			want = "abc"
		}
		feeds(t, s, abcFrame[at:at+1], want)
		feeds(t, s, "", "")
	}
	isFault(t, "Close", s.Close(), api.OK, 0)
}

func TestClose(t *testing.T) { // 5.4: behind each byte of frames
	b, ends := "", map[int]bool{0: true}
	for _, x := range []string{passedOver(0x51, "pass"), head("\x7c\x40"+low8(3)) + summed(plain("abc")) + noughts + plainSum("abc"), passedOver(0x52, ""), emptyFrame} {
		b += x
		ends[len(b)] = true
	}
	for n := range len(b) + 1 {
		s := started(t, 9)
		if _, e := s.Feed(b[:n]); e != nil {
			t.Fatal(e)
		}
		if ends[n] {
			isFault(t, "Close where a frame begins", s.Close(), api.OK, 0)
		} else {
			isFault(t, "Close within a frame", s.Close(), api.ErrShort, n)
		}
		isShut(t, s)
	}
}

func TestStreamPieces(t *testing.T) { // 5.5, T7: frames of several blocks, in whatever pieces
	source := rand.New(rand.NewSource(56))
	for _, o := range []api.Wrap{{Level: 0, Size: 4}, {Level: 1, Size: 4, Blocks: true, Length: true, Sum: true}, {Level: 2, Size: 5, Sum: true}} {
		b, _ := Pack(lines, o)
		b = emptyFrame + b + passedOver(0x5c, lines[:1000]) + b
		for range 20 {
			holdsStream(t, b, 2*len(lines), anyCuts(source, len(b)))
			holdsStream(t, b, len(lines)+source.Intn(len(lines)), anyCuts(source, len(b)))
		}
	}
	for b, text := range published() {
		holdsStream(t, b+b, 2*len(text), everyCut(len(b+b)))
		for range 20 {
			holdsStream(t, b+b, 2*len(text), anyCuts(source, len(b+b)))
		}
	}
}

func TestStreamsApart(t *testing.T) { // P4: one does not show in another
	one, other := started(t, 99), started(t, 3)
	for at := range len(abcFrame) {
		want := ""
		if at == 13 {
			want = "abc"
		}
		feeds(t, one, abcFrame[at:at+1], want)
		feeds(t, other, abcFrame[at:at+1], want)
	}
	_, e := other.Feed(abcFrame)
	isFault(t, "Feed", e, api.ErrMost, 25)
	feeds(t, one, abcFrame, "abc")
	isFault(t, "Close", one.Close(), api.OK, 0)
}

func TestStreamKeepsLittle(t *testing.T) { // no more than what comes may ask, and nothing of what was fed
	s := started(t, math.MaxInt)
	b := head("\x44\x40") + strings.Repeat(plain(lines[:60000]), 9)
	feeds(t, s, b, strings.Repeat(lines[:60000], 9))
	before := s.reader.before.text.String()
	if len(before) > 2*reach || within(before, b) || len(s.waiting) > 0 {
		t.Errorf("a Stream keeps %d and %d bytes", len(before), len(s.waiting))
	}
	s = started(t, math.MaxInt)
	b = head("\x40\x40") + plain("abcd") + low4(9) + "wxyz"
	feeds(t, s, b, "abcd")
	before = s.reader.before.text.String()
	if before != "abcd" || within(before, b) || string(s.waiting) != "wxyz" {
		t.Errorf("a Stream keeps %q and %q", before, s.waiting)
	}
	s = started(t, math.MaxInt)
	feeds(t, s, head(bits4)+plain(lines[:60000])+"\x03", lines[:60000])
	if kept := s.reader.before.text.Len(); kept > 0 || len(s.waiting) != 1 {
		t.Errorf("of blocks that are alone a Stream keeps %d and %d bytes", kept, len(s.waiting))
	}
	s = started(t, math.MaxInt)
	feeds(t, s, "\x50\x2a\x4d\x18\xff\xff\xff\xff"+lines, "")
	if len(s.waiting) != 0 {
		t.Errorf("of what is passed over a Stream keeps %d bytes", len(s.waiting))
	}
	isFault(t, "Close", s.Close(), api.ErrShort, 8+len(lines))
}

func TestFeedIsNew(t *testing.T) { // P3
	s := started(t, 99)
	b := strings.Clone(abcFrame)
	first, _ := s.Feed(b)
	second, _ := s.Feed(b)
	if first != "abc" || second != "abc" || within(first, b) || within(second, b) || unsafe.StringData(first) == unsafe.StringData(second) {
		t.Errorf("Feed: %q, %q, in memory that they share", first, second)
	}
}
