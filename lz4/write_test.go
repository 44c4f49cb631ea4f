package lz4

import (
	"math"
	"math/big"
	"math/rand"
	"strings"
	"testing"

	"dragnet/api"
)

func TestBound(t *testing.T) { // 4.1
	for n, want := range map[int]int{0: 16, 1: 17, 254: 270, 255: 272, 256: 273, 509: 526, 510: 528, -1: 0, math.MinInt: 0, math.MaxInt: math.MaxInt, math.MaxInt - 1: math.MaxInt} {
		if got := Bound(n); got != want {
			t.Errorf("Bound(%d) = %d, want %d", n, got, want)
		}
	}
	greatest := big.NewInt(math.MaxInt)
	edge := math.MaxInt / 256 * 255 // about where the sum is the greatest int
	for n := edge - 2000; n < edge+2000; n++ {
		sum := new(big.Int).Add(big.NewInt(int64(n)), big.NewInt(int64(n/255)))
		if sum.Add(sum, big.NewInt(16)); sum.Cmp(greatest) > 0 {
			sum = greatest
		}
		if got := Bound(n); int64(got) != sum.Int64() {
			t.Fatalf("Bound(%d) = %d, want %v", n, got, sum)
		}
	}
}

func TestCompressExamples(t *testing.T) { // 4.4
	a := strings.Repeat("a", 20)
	for level := range 4 {
		for s, want := range map[string]string{"": "\x00", "abc": "\x30abc", a[:12]: "\xc0" + a[:12]} {
			if got, e := Compress(s, level); got != want || e != api.OK {
				t.Errorf("Compress(%q, %d) = %x, %v, want %x", s, level, got, e, want)
			}
		}
	}
	for level, want := range []string{"\xf0\x05" + a, "\x1aa\x01\x00Paaaaa", "\x1aa\x01\x00Paaaaa", "\x1aa\x01\x00Paaaaa"} {
		if got, e := Compress(a, level); got != want || e != api.OK {
			t.Errorf("Compress(%q, %d) = %x, %v, want %x", a, level, got, e, want)
		}
	}
	if got, e := Compress(a[:16], 1); got != "\x16a\x01\x00Paaaaa" || e != api.OK {
		t.Errorf("Compress(%q, 1) = %x, %v", a[:16], got, e)
	}
}

func TestCompressWrong(t *testing.T) { // 4.4
	long := strings.Repeat("a", 4097)
	for _, c := range []struct {
		s     string
		level int
		e     api.Errno
	}{
		{"", -1, api.ErrArg}, {"", 4, api.ErrArg}, {long, 4, api.ErrArg}, {long, math.MinInt, api.ErrArg}, {"a", math.MaxInt, api.ErrArg},
		{long, 3, api.ErrLong}, {long[1:], 3, api.OK}, {long, 2, api.OK}, {long, 1, api.OK}, {long, 0, api.OK},
	} {
		if got, e := Compress(c.s, c.level); e != c.e || (got == "") != (e != api.OK) {
			t.Errorf("Compress of %d bytes at %d: %x, %v, want %v", len(c.s), c.level, got, e, c.e)
		}
	}
}

// isPacking holds a packed text against the words of a packing, and against its way back.
func isPacking(t *testing.T, s, b string) {
	t.Helper()
	all, e, _ := plainSequences(0, b, math.MaxInt)
	if e != api.OK || plainSays("", all) != s {
		t.Fatalf("%.60q packed as %.60x does not say it: %v", s, b, e)
	}
	p := 0
	for _, one := range all[:len(all)-1] {
		p += len(one.x.Literals)
		if !plainMayStand(s, p, one.x.Offset, one.x.Length) {
			t.Fatalf("%.60q packed as %.60x: no copy may stand at %d with %d and %d", s, b, p, one.x.Offset, one.x.Length)
		}
		p += one.x.Length
	}
	if b[all[len(all)-1].at]%16 != 0 {
		t.Fatalf("%.60q packed as %.60x: the last L is not 0", s, b)
	}
	if len(b) > Bound(len(s)) { // 4.6
		t.Fatalf("%.60q packed as %d bytes, bound %d", s, len(b), Bound(len(s)))
	}
	for _, most := range []int{len(s), len(s) + 1, math.MaxInt} { // 4.6
		if got, e, at := Expand(b, most); got != s || e != api.OK || at != 0 {
			t.Fatalf("%.60q packed as %.60x: Expand with %d: %.60q, %v, %d", s, b, most, got, e, at)
		}
	}
	for _, most := range []int{0, len(s) / 2, len(s) - 1} { // 4.6
		if most < 0 || most >= len(s) {
			continue
		}
		if got, e, _ := Expand(b, most); got != "" || e != api.ErrMost {
			t.Fatalf("%.60q packed as %.60x: Expand with %d: %.60q, %v", s, b, most, got, e)
		}
	}
}

// packs holds a level against what it must make.
func packs(t *testing.T, s string, level int, want string) {
	t.Helper()
	got, e := Compress(s, level)
	if got != want || e != api.OK {
		t.Fatalf("Compress(%.200q, %d) = %.200x, %v, want %.200x", s, level, got, e, want)
	}
	isPacking(t, s, got)
}

func TestCompressGreedy(t *testing.T) { // 4.4, levels 0 to 2
	for _, s := range texts() {
		packs(t, s, 0, plainWritten([]api.Sequence{{Literals: s}}))
		packs(t, s, 1, plainGreedy(s, 1))
		packs(t, s, 2, plainGreedy(s, 32))
	}
}

func TestCompressManyCandidates(t *testing.T) { // 4.4, level 2: the longest is the 31st to the 34th, counted from the greatest
	for between := 29; between <= 33; between++ {
		s := "abcdefgh"
		for i := range between {
			s += "abcd" + everyByte(4*i + 8)[4*i+4:]
		}
		s += "abcdefgh" + "0123456789ABCD"
		packs(t, s, 1, plainGreedy(s, 1))
		packs(t, s, 2, plainGreedy(s, 32))
	}
}

func TestCompressFar(t *testing.T) { // 4.4: candidates about the greatest offset
	filler := everyByte(65540)
	for _, apart := range []int{65533, 65534, 65535, 65536, 65537} {
		s := "wxyzabcd" + filler[:apart-8] + "wxyzabcd" + "0123456789AB"
		want := []api.Sequence{{Literals: s[:apart], Offset: apart, Length: 8}, {Literals: "0123456789AB"}}
		if apart > 65535 {
			want = []api.Sequence{{Literals: s}}
		}
		packs(t, s, 1, plainWritten(want))
		packs(t, s, 2, plainWritten(want))
	}
}

func TestCompressEnds(t *testing.T) { // 4.4: copies that begin and end as near the end as they may
	for ahead := range 6 {
		for tail := range 24 {
			s := everyByte(ahead) + "qrstuvwxyzklmnop" + "qrstuvwxyzklmnopq"[:tail%17] + everyByte(40)[16:16+tail]
			packs(t, s, 1, plainGreedy(s, 1))
			packs(t, s, 2, plainGreedy(s, 32))
			packs(t, s, 3, plainBest(s))
		}
	}
}

func plainBest(s string) string {
	var best []api.Sequence
	plainShortest(s, 0, nil, &best)
	return plainWritten(best)
}

func TestCompressShortest(t *testing.T) { // 4.4, level 3: against each packing there is
	source := rand.New(rand.NewSource(44))
	for n := range 27 {
		for range 60 {
			for _, letters := range []string{"ab", "abc", "aaaab", "\x00\xff\x80"} {
				s := anyText(source, letters, n)
				packs(t, s, 3, plainBest(s))
			}
			s := patched(source, "abcd", n)
			packs(t, s, 3, plainBest(s))
		}
		if n < 22 {
			s := strings.Repeat("a", n)
			packs(t, s, 3, plainBest(s))
		}
	}
}

func TestCompressShortestLong(t *testing.T) { // 4.4, level 3: counts with length bytes, and more copies
	unit := everyByte(24)
	for _, literals := range []int{0, 11, 14, 15, 16, 245, 246, 247} {
		for _, count := range []int{17, 18, 19, 20, 21} {
			s := everyByte(literals + 400)[400:] + unit + unit[:count] + "??????" + unit[3:9] + "!!!!!!!"
			packs(t, s, 3, plainBestByParts(s))
		}
	}
	source := rand.New(rand.NewSource(45))
	for n := 27; n < 70; n++ {
		for _, letters := range []string{"ab", "abc", "abcdef"} {
			s := patched(source, letters, n)
			packs(t, s, 3, plainBestByParts(s))
		}
	}
}

func TestCompressShortestEdges(t *testing.T) { // 4.4, level 3: where one more takes a length byte more, and the next copy could take it
	unique := everyByte(600)
	for _, count := range []int{17, 18, 19, 20, 21, 272, 273, 274, 275, 528, 529} {
		for overlap := range 4 {
			from := unique[10 : 10+count]
			ahead := unique[:count+40] + "!" + from[count-overlap:] + "QRSTUV"
			s := ahead + from + "QRSTUV" + "0123456789AB"
			var best []api.Sequence
			for k := range overlap + 1 {
				all := []api.Sequence{{Literals: ahead, Offset: len(ahead) - 10, Length: count - k}, {Offset: count + 6, Length: 6 + k}, {Literals: "0123456789AB"}}
				if best == nil || plainBetter(all, best) {
					best = all
				}
			}
			packs(t, s, 3, plainWritten(best))
		}
	}
}

// overlapped begins with so many bytes, of which no four stand twice, and goes on with pieces of them.
func overlapped(source *rand.Rand, ahead, n int) string {
	s := everyByte(ahead)
	for len(s) < n {
		from, count := source.Intn(ahead), 3+source.Intn(5)
		s += s[from:min(ahead, from+count)]
		if source.Intn(3) == 0 {
			s += anyText(source, "xyz", 1)
		}
	}
	return s
}

func TestCompressShortestOverlapped(t *testing.T) { // 4.4, level 3: about the counts of literals at which a length byte more is taken
	source := rand.New(rand.NewSource(48))
	for _, ahead := range []int{9, 10, 11, 12, 13, 14, 15} {
		for range 60 {
			s := overlapped(source, ahead, ahead+20+source.Intn(30))
			packs(t, s, 3, plainBestByParts(s))
		}
	}
	for _, ahead := range []int{264, 266, 267, 268, 269, 270} {
		for range 6 {
			s := overlapped(source, ahead, ahead+20+source.Intn(20))
			packs(t, s, 3, plainBestByParts(s))
		}
	}
}

func TestCompressLeast(t *testing.T) { // 4.6, T8: no packing is shorter, of longer texts
	source := rand.New(rand.NewSource(46))
	for _, n := range []int{40, 60, 90, 130, 300} {
		for range 6 {
			for _, s := range []string{patched(source, "abcdefgh", n), anyText(source, "abc", n), patched(source, "ab", n)} {
				got, e := Compress(s, 3)
				if least := plainLeast(s); len(got) != least || e != api.OK {
					t.Fatalf("Compress(%q, 3): %d bytes, %v, the shortest is %d", s, len(got), e, least)
				}
				isPacking(t, s, got)
			}
		}
	}
}

func TestCompressNeverLonger(t *testing.T) { // 4.6: level 3 is the shortest of all levels, and of another packer's
	for _, s := range texts() {
		best, _ := Compress(s, 3)
		isPacking(t, s, best)
		for level := range 3 {
			if b, _ := Compress(s, level); len(b) < len(best) {
				t.Errorf("Compress(%.40q): %d bytes at 3, %d at %d", s, len(best), len(b), level)
			}
		}
	}
	lines := "GET /a status=200 10ms\nGET /b status=500 12ms\nGET /a status=404 10ms\nGET /a status=200 11ms\n"
	if b, _ := Compress(lines, 3); len(b) > 57 {
		t.Errorf("Compress(%q, 3): %d bytes", lines, len(b))
	}
}

func TestCompressAgain(t *testing.T) { // P4: the same at each call
	source := rand.New(rand.NewSource(47))
	s := patched(source, "abcdefgh\n=", 4000)
	for level := range 4 {
		first, _ := Compress(s, level)
		for range 3 {
			if again, _ := Compress(s, level); again != first {
				t.Errorf("Compress at %d tells two packings of one text", level)
			}
		}
	}
}
