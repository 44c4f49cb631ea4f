package lz4

import (
	"math"
	"math/rand"
	"strings"
	"testing"
	"unsafe"

	"dragnet/api"
)

// holdsExpand holds ExpandOn, and Expand if nothing stands ahead, against the plain form.
func holdsExpand(t *testing.T, before, b string, most int) {
	t.Helper()
	want, why, place := plainExpand(before, b, most)
	got, e, at := ExpandOn(before, b, most)
	if got != want || e != why || at != place {
		t.Fatalf("ExpandOn(%.40q, %.60x, %d) = %.60q, %v, %d, want %.60q, %v, %d", before, b, most, got, e, at, want, why, place)
	}
	if e == api.OK && len(got) > most { // 4.6
		t.Fatalf("ExpandOn(%.40q, %.60x, %d) says %d bytes", before, b, most, len(got))
	}
	if before != "" {
		return
	}
	if got, e, at = Expand(b, most); got != want || e != why || at != place { // 4.6: of nothing ahead
		t.Fatalf("Expand(%.60x, %d) = %.60q, %v, %d, want %.60q, %v, %d", b, most, got, e, at, want, why, place)
	}
}

func TestExpandExamples(t *testing.T) { // 4.2
	for _, c := range []struct {
		b    string
		most int
		want string
		e    api.Errno
		at   int
	}{
		{"\x10a\x01\x00\x00", 9, "aaaaa", api.OK, 0}, {"\x10a\x01\x00\x00", 5, "aaaaa", api.OK, 0}, {"\x10a\x01\x00\x00", 4, "", api.ErrMost, 0},
		{"\x10a\x01\x00", 9, "", api.ErrShort, 4}, {"\x10a\x02\x00\x00", 9, "", api.ErrOffset, 2}, {"\x10a\x00\x00\x00", 9, "", api.ErrOffset, 2},
		{"\x20ab", 1, "", api.ErrMost, 0}, {"\x20ab", 2, "ab", api.OK, 0}, {"\x20a", 9, "", api.ErrShort, 2}, {"\x10a\x01", 9, "", api.ErrShort, 3},
		{"", 0, "", api.ErrShort, 0}, {"\x00", 0, "", api.OK, 0}, {"\x05", 0, "", api.OK, 0}, {"\x0f", 0, "", api.OK, 0},
		{"\xf0\xff", 99, "", api.ErrMost, 0}, {"\xf0\xff", 999, "", api.ErrShort, 2}, {"\xf0", 14, "", api.ErrMost, 0}, {"\xf0", 15, "", api.ErrShort, 1},
		{"\x1fa\x01\x00\xff", 99, "", api.ErrMost, 0}, {"\x1fa\x01\x00\xff", 999, "", api.ErrShort, 5}, {"\x1fa\x01\x00", 19, "", api.ErrMost, 0}, {"\x1fa\x01\x00", 20, "", api.ErrShort, 4},
		{"\x10a\x01\x00\x20bc", 7, "aaaaabc", api.OK, 0}, {"\x10a\x01\x00\x20bc", 6, "", api.ErrMost, 4}, {"\x10a\x01\x00\x00\x06\x00\x00", 99, "", api.ErrOffset, 5},
		{"\x00\x01\x00\x00", 99, "", api.ErrOffset, 1}, {"\x10a\x00\x01\x00", 99, "", api.ErrOffset, 2},
		{"", -1, "", api.ErrArg, 0}, {"\x10a\x02\x00\x00", -1, "", api.ErrArg, 0}, {"\x00", math.MinInt, "", api.ErrArg, 0}, {"\x20ab", math.MaxInt, "ab", api.OK, 0},
	} {
		if got, e, at := Expand(c.b, c.most); got != c.want || e != c.e || at != c.at {
			t.Errorf("Expand(%x, %d) = %q, %v, %d, want %q, %v, %d", c.b, c.most, got, e, at, c.want, c.e, c.at)
		}
		holdsExpand(t, "", c.b, c.most)
	}
}

func TestExpandPublished(t *testing.T) { // 4.2: what another packer made
	lines := "GET /a status=200 10ms\nGET /b status=500 12ms\nGET /a status=404 10ms\nGET /a status=200 11ms\n"
	for b, want := range map[string]string{
		"\xf1\x08" + lines[:23] + "\x17\x00\x14b\x17\x00d500 12\x17\x00\x05.\x007404.\x00\x05\x17\x00\x90200 11ms\n": lines,
		"\xf1\x08" + lines[:23] + "\x17\x00\x14b\x17\x00\x105\x17\x00\x142\x17\x00\x05.\x007404.\x00\tE\x00P11ms\n":  lines,
		"\x1fx\x01\x00\xff\x19pabcdefg": strings.Repeat("x", 300) + "abcdefg",
	} {
		if got, e, at := Expand(b, len(want)); got != want || e != api.OK || at != 0 {
			t.Errorf("Expand(%x) = %q, %v, %d, want %q", b, got, e, at, want)
		}
	}
}

func TestExpandOn(t *testing.T) { // 4.3
	for _, c := range []struct {
		before, b string
		most      int
		want      string
		e         api.Errno
		at        int
	}{
		{"xyz", "\x00\x02\x00\x00", 4, "yzyz", api.OK, 0}, {"xyz", "\x00\x02\x00\x00", 3, "", api.ErrMost, 0}, {"xyz", "\x00\x04\x00\x00", 9, "", api.ErrOffset, 1},
		{"xyz", "\x00\x03\x00\x00", 9, "xyzx", api.OK, 0}, {"xyz", "\x10a\x04\x00\x00", 9, "axyza", api.OK, 0}, {"xyz", "\x10a\x05\x00\x00", 9, "", api.ErrOffset, 2},
		{"xyz", "\x20ab", 2, "ab", api.OK, 0}, {"xyz", "", 2, "", api.ErrShort, 0}, {"xyz", "\x00", -1, "", api.ErrArg, 0},
		{"hello zyzy", "\x2czy\x02\x00Pend..", 23, "zyzyzyzyzyzyzyzyzyend..", api.OK, 0},
	} {
		if got, e, at := ExpandOn(c.before, c.b, c.most); got != c.want || e != c.e || at != c.at {
			t.Errorf("ExpandOn(%q, %x, %d) = %q, %v, %d, want %q, %v, %d", c.before, c.b, c.most, got, e, at, c.want, c.e, c.at)
		}
		holdsExpand(t, c.before, c.b, c.most)
	}
}

func TestExpandOnFar(t *testing.T) { // 4.3: about the greatest offset
	long := everyByte(66000)
	for _, size := range []int{65533, 65534, 65535, 65536, 66000} {
		for _, literals := range []string{"\x00", "\x10a", "\x20ab"} {
			for _, offset := range []string{"\xfd\xff", "\xfe\xff", "\xff\xff", "\x01\x00"} {
				holdsExpand(t, long[:size], literals+offset+"\x10z", 99)
				holdsExpand(t, long[:size], literals+offset+"\x00\xff\xff\x00", 99)
			}
		}
	}
}

// packed makes a packed text of any sequences, most of whose offsets are right.
func packed(source *rand.Rand, ahead int) string {
	var all []api.Sequence
	said := ahead
	for range source.Intn(5) {
		x := api.Sequence{Literals: anyText(source, "abc", source.Intn(4)), Length: 4 + source.Intn(20)}
		if source.Intn(6) == 0 {
			x.Literals = anyText(source, "abc", 13+source.Intn(280))
			x.Length = 4 + source.Intn(600)
		}
		said += len(x.Literals)
		x.Offset = 1 + source.Intn(said+1)
		said += x.Length
		all = append(all, x)
	}
	return plainWritten(append(all, api.Sequence{Literals: anyText(source, "xy", source.Intn(18))}))
}

// spoilt has a byte changed, or its end cut off.
func spoilt(source *rand.Rand, b string) string {
	at := source.Intn(len(b))
	if source.Intn(2) == 0 {
		return b[:at]
	}
	return b[:at] + string([]byte{byte(source.Intn(256))}) + b[at+1:]
}

func TestExpandAny(t *testing.T) { // 4.2, 4.3: with each most about the length, and spoilt
	source := rand.New(rand.NewSource(42))
	for range 4000 {
		before := anyText(source, "pqr", source.Intn(3)*source.Intn(5))
		b := packed(source, len(before))
		for range 3 {
			all, _, _ := plainSequences(len(before), b, math.MaxInt)
			said := len(plainSays(before, all))
			for _, most := range []int{said - 1, said, said + 1, source.Intn(said + 1), math.MaxInt} {
				holdsExpand(t, before, b, most)
			}
			b = spoilt(source, b+"\x00")
		}
	}
}

func TestExpandEachStep(t *testing.T) { // 4.2: each most from nothing on, each end: which error shows first
	for _, b := range []string{
		"\xff\x02" + everyByte(17) + "\x03\x00\x01\x1f?\x01\x00\x00\x30xyz",
		"\x1fa\x01\x00\xff\x00\x1fb\x02\x00\x03\x00",
		"\xf0\xff\x01" + everyByte(271) + "\x0f\x01\x00\xff\x00",
	} {
		for end := range len(b) + 1 {
			for most := range 620 {
				holdsExpand(t, "", b[:end], most)
				holdsExpand(t, "ab", b[:end], most)
			}
		}
	}
}

func TestNothingShared(t *testing.T) { // P3: what comes out is no piece of what went in
	b := "\x40abcd"
	got, _, _ := Expand(b, 9)
	if unsafe.StringData(got) == unsafe.StringData(b[1:]) {
		t.Error("Expand hands out a piece of the packed text")
	}
	for _, x := range Parts(b) {
		if unsafe.StringData(x.Literals) == unsafe.StringData(b[1:]) {
			t.Error("Parts hands out pieces of the packed text")
		}
	}
}

func TestExpandLong(t *testing.T) { // 4.2: a copy of many bytes, and many copies
	for _, count := range []int{1, 2, 3, 4, 5, 7, 64} {
		unit := everyByte(count)
		want := strings.Repeat(unit, 200000/count) + "end.."
		b := plainWritten([]api.Sequence{{Literals: unit, Offset: count, Length: len(want) - count - 5}, {Literals: "end.."}})
		if got, e, at := Expand(b, len(want)); got != want || e != api.OK || at != 0 {
			t.Errorf("Expand of %d bytes over and over: %d bytes, %v, %d", count, len(got), e, at)
		}
		if got, e, at := Expand(b, len(want)-1); got != "" || e != api.ErrMost || at == 0 {
			t.Errorf("Expand of %d bytes over and over, one too many: %d bytes, %v, %d", count, len(got), e, at)
		}
	}
}

func partsOf(b string) []plainSequence {
	var all []plainSequence
	for at, x := range Parts(b) {
		all = append(all, plainSequence{at, x})
	}
	return all
}

func same(a, b []plainSequence) bool {
	if len(a) != len(b) {
		return false
	}
	for i := range a {
		if a[i] != b[i] {
			return false
		}
	}
	return true
}

func TestPartsExamples(t *testing.T) { // 4.5
	for _, c := range []struct {
		b    string
		want []plainSequence
	}{
		{"\x10a\x01\x00\x00", []plainSequence{{0, api.Sequence{Literals: "a", Offset: 1, Length: 4}}, {4, api.Sequence{}}}},
		{"\x10a\x01\x00", []plainSequence{{0, api.Sequence{Literals: "a", Offset: 1, Length: 4}}}},
		{"\x10a\x01\x00\x20b", []plainSequence{{0, api.Sequence{Literals: "a", Offset: 1, Length: 4}}}},
		{"\x10a\x01\x00\x00\x06\x00\x00", []plainSequence{{0, api.Sequence{Literals: "a", Offset: 1, Length: 4}}}},
		{"\x10a\x01\x00\x00\x05\x00\x00", []plainSequence{{0, api.Sequence{Literals: "a", Offset: 1, Length: 4}}, {4, api.Sequence{Offset: 5, Length: 4}}, {7, api.Sequence{}}}},
		{"\x10a\x00\x00", nil}, {"\x10a\x01", nil}, {"\x1fa\x01\x00", nil}, {"", nil}, {"\x20a", nil}, {"\xf0", nil},
		{"\x0f", []plainSequence{{0, api.Sequence{}}}},
	} {
		if got := partsOf(c.b); !same(got, c.want) {
			t.Errorf("Parts(%x): %v, want %v", c.b, got, c.want)
		}
	}
}

func TestPartsAny(t *testing.T) { // 4.5, 4.6
	source := rand.New(rand.NewSource(45))
	for range 6000 {
		b := packed(source, 0)
		for range 3 {
			got := partsOf(b)
			want, e, _ := plainSequences(0, b, math.MaxInt)
			if !same(got, want) {
				t.Fatalf("Parts(%x): %v, want %v", b, got, want)
			}
			if text, why, _ := Expand(b, math.MaxInt); why != e || e == api.OK && text != plainSays("", got) {
				t.Fatalf("Parts(%x) say %q, Expand %q, %v", b, plainSays("", got), text, why)
			}
			b = spoilt(source, b+"\x00")
		}
	}
}

func TestPartsOfAll(t *testing.T) { // 4.6: of what Compress made they are all of it
	for _, s := range texts() {
		for level := range 4 {
			b, _ := Compress(s, level)
			var all []api.Sequence
			for _, one := range partsOf(b) {
				all = append(all, one.x)
			}
			if plainWritten(all) != b {
				t.Errorf("Parts of Compress(%.40q, %d) are not all of it", s, level)
			}
		}
	}
}

func TestPartsLeftEarly(t *testing.T) { // P3: left early, again, and within itself
	b := "\x10a\x01\x00\x10b\x02\x00\x10c"
	whole := partsOf(b)
	parts := Parts(b)
	for range 2 {
		for stop := range len(whole) {
			seen := 0
			for at, x := range parts {
				if (plainSequence{at, x}) != whole[seen] {
					t.Fatalf("Parts(%x): %d %v at %d", b, at, x, seen)
				}
				if seen == stop {
					break
				}
				for range parts {
					break
				}
				seen++
			}
			if seen != stop {
				t.Errorf("Parts(%x): left at %d, not %d", b, seen, stop)
			}
		}
	}
}
