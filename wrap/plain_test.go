package wrap

import (
	"errors"
	"fmt"
	"math"
	"math/rand"
	"slices"
	"testing"

	"dragnet/api"
	"dragnet/lz4"
	"dragnet/sums"
)

// The plain reader here does what the chapter's words say, one by one, of bytes that are all there; the calls are held against it.

// plainBlock is a block's text, and where the block is whole.
type plainBlock struct {
	end  int
	text string
}

// plainFault is what is wrong first, and how many bytes must be there to show it (never: it is that no more come).
type plainFault struct {
	code      api.Errno
	at, shows int
}

const never = math.MaxInt

type plainReader struct {
	b      string
	most   int
	at     int
	blocks []plainBlock
	said   int
}

func (r *plainReader) take(n uint64) string {
	if uint64(len(r.b)-r.at) < n {
		panic(plainFault{api.ErrShort, len(r.b), never})
	}
	from := r.at
	r.at += int(n)
	return r.b[from:r.at]
}

func (r *plainReader) must(holds bool, code api.Errno, at int) {
	if !holds {
		panic(plainFault{code, at, r.at})
	}
}

func lowFirst(b string) uint64 {
	var n uint64
	for _, x := range slices.Backward([]byte(b)) {
		n = n*256 + uint64(x)
	}
	return n
}

func plainSum(b string) string {
	n := sums.XX32(0, b)
	return string([]byte{byte(n), byte(n >> 8), byte(n >> 16), byte(n >> 24)})
}

func plainCheck(head string) string { return plainSum(head)[1:2] }

// frame reads one, of either kind.
func (r *plainReader) frame() {
	at := r.at
	m := r.take(4)
	if m[1:] == "\x2a\x4d\x18" && m[0] >= 0x50 && m[0] <= 0x5f {
		r.take(lowFirst(r.take(4)))
		return
	}
	r.must(m == "\x04\x22\x4d\x18", api.ErrMagic, at)
	head := r.at
	flags := fmt.Sprintf("%08b", r.take(1)[0]) // bit 7 is the character 0
	r.must(flags[:2] == "01" && flags[6:] == "00", api.ErrFlags, head)
	size := fmt.Sprintf("%08b", r.take(1)[0])
	r.must(size[0] == '0' && size[4:] == "0000", api.ErrFlags, head+1)
	lid := map[string]uint64{"100": 65536, "101": 262144, "110": 1048576, "111": 4194304}[size[1:4]]
	r.must(lid != 0, api.ErrSize, head+1)
	told := uint64(math.MaxUint64)
	if flags[4] == '1' {
		told = lowFirst(r.take(8))
	}
	want := plainCheck(r.b[head:r.at])
	r.must(r.take(1) == want, api.ErrHead, r.at-1)
	text := r.plainBlocks(flags, lid, told)
	r.must(flags[4] == '0' || uint64(len(text)) == told, api.ErrSize, r.at-4)
	if flags[5] == '1' {
		r.must(r.take(4) == plainSum(text), api.ErrSum, r.at-4)
	}
}

// plainBlocks reads the blocks and the noughts behind them: the frame's text.
func (r *plainReader) plainBlocks(flags string, lid, told uint64) string {
	text := ""
	for {
		at := r.at
		n := lowFirst(r.take(4))
		if n == 0 {
			return text
		}
		plain, count := n >= 1<<31, n%(1<<31)
		r.must(count <= lid && !(plain && count == 0), api.ErrSize, at)
		block := r.take(count)
		if flags[3] == '1' {
			r.must(r.take(4) == plainSum(block), api.ErrSum, at+4+int(count))
		}
		said := block
		if !plain {
			before := text
			if flags[2] == '1' {
				before = ""
			}
			var e api.Errno
			var place int
			said, e, place = lz4.ExpandOn(before, block, int(lid))
			r.must(e == api.OK, e, at+4+place)
		}
		text += said
		r.must(uint64(len(text)) <= told, api.ErrSize, at)
		r.must(r.said+len(said) <= r.most, api.ErrMost, at)
		r.said += len(said)
		r.blocks = append(r.blocks, plainBlock{r.at, said})
	}
}

// plainRead reads frames: the blocks ahead of the first fault, and that.
func plainRead(b string, most int) (blocks []plainBlock, f plainFault) {
	if most < 0 {
		return nil, plainFault{api.ErrArg, 0, 0}
	}
	r := &plainReader{b: b, most: most}
	defer func() {
		blocks = r.blocks
		if x := recover(); x != nil {
			f = x.(plainFault)
		}
	}()
	for r.at < len(b) {
		r.frame()
	}
	return
}

// textBetween is what the blocks say that are whole behind so many bytes, and were not ahead.
func textBetween(blocks []plainBlock, from, to int) string {
	text := ""
	for _, x := range blocks {
		if x.end > from && x.end <= to {
			text += x.text
		}
	}
	return text
}

// isFault holds an error against a code and a place (OK: none).
func isFault(t *testing.T, what string, e error, code api.Errno, at int) {
	t.Helper()
	if code == api.OK {
		if e != nil {
			t.Fatalf("%s: %v, want none", what, e)
		}
		return
	}
	var f *Fault
	if !errors.As(e, &f) || f.Code != code || f.At != at {
		t.Fatalf("%s: %v, want %v at %d", what, e, code, at)
	}
	if !errors.Is(e, code) || errors.Is(e, api.OK) || errors.Is(e, code+1) {
		t.Fatalf("%s: errors.Is does not tell %v alone", what, code)
	}
}

// holdsUnpack holds Unpack against the plain reader.
func holdsUnpack(t *testing.T, b string, most int) {
	t.Helper()
	blocks, f := plainRead(b, most)
	want := textBetween(blocks, 0, len(b))
	if f.code != api.OK {
		want = ""
	}
	got, e := Unpack(b, most)
	isFault(t, fmt.Sprintf("Unpack(%.200x, %d)", b, most), e, f.code, f.at)
	if got != want {
		t.Fatalf("Unpack(%.200x, %d) = %.60q, want %.60q", b, most, got, want)
	}
}

// holdsStream feeds the pieces between the cuts, and holds each answer against the plain reader.
func holdsStream(t *testing.T, b string, most int, cuts []int) {
	t.Helper()
	blocks, f := plainRead(b, most)
	s, e := New(most)
	isFault(t, "New", e, api.OK, 0)
	from := 0
	for _, to := range append(slices.Clone(cuts), len(b)) {
		what := fmt.Sprintf("Feed of %d to %d of %.200x with %d", from, to, b, most)
		got, e := s.Feed(b[from:to])
		if want := textBetween(blocks, from, to); got != want {
			t.Fatalf("%s = %.60q, want %.60q", what, got, want)
		}
		if f.code != api.OK && f.shows <= to {
			isFault(t, what, e, f.code, f.at)
			isShut(t, s)
			return
		}
		isFault(t, what, e, api.OK, 0)
		from = to
	}
	isFault(t, fmt.Sprintf("Close behind %.200x", b), s.Close(), f.code, f.at)
	isShut(t, s)
}

func isShut(t *testing.T, s *Stream) {
	t.Helper()
	for _, b := range []string{"", "\x04\x22\x4d\x18", "x"} {
		got, e := s.Feed(b)
		isFault(t, "Feed of one that is shut", e, api.ErrShut, 0)
		if got != "" {
			t.Fatalf("Feed of one that is shut: %q", got)
		}
		isFault(t, "Close of one that is shut", s.Close(), api.ErrShut, 0)
	}
}

// anyCuts are places of a text of so many bytes, in order; some stand twice.
func anyCuts(source *rand.Rand, n int) []int {
	cuts := make([]int, source.Intn(6))
	for i := range cuts {
		cuts[i] = source.Intn(n + 1)
	}
	slices.Sort(cuts)
	return cuts
}

func everyCut(n int) []int {
	cuts := make([]int, n)
	for i := range cuts {
		cuts[i] = i
	}
	return cuts
}

// holdsAll holds all of the reading calls, in some pieces and byte by byte.
func holdsAll(t *testing.T, source *rand.Rand, b string, most int) {
	t.Helper()
	holdsUnpack(t, b, most)
	holdsStream(t, b, most, anyCuts(source, len(b)))
	if len(b) < 200 {
		holdsStream(t, b, most, everyCut(len(b)))
	}
}
