package block

import (
	"encoding/binary"
	"errors"
	"hash/crc32"
	"math/rand"
	"slices"
	"strings"
	"testing"
	"unsafe"

	"dragnet/api"
	"dragnet/lz4"
	"dragnet/record"
)

// The plain forms here do what the chapter's words say, one by one, with the numbers and the sum of the library; what the chapter asks of lz4 and record they ask of these. The calls are held against them.

func plainSum(b string) string {
	return string(binary.LittleEndian.AppendUint32(nil, crc32.Checksum([]byte(b), crc32.MakeTable(crc32.Castagnoli))))
}

// plainHead is a head of any numbers, in the order of the image, under a sum that is right.
func plainHead(n [8]uint64, level byte) string {
	b := []byte("DRG1")
	for i := range n {
		b = binary.LittleEndian.AppendUint64(b, n[i])
	}
	b = append(b, level)
	return string(b) + plainSum(string(b))
}

// plainImage is an image of any numbers and any bytes as what is packed, under sums that are right.
func plainImage(n [8]uint64, level byte, packed string) string {
	return plainHead(n, level) + packed + plainSum(packed)
}

// plainNumbers are a head's numbers, in the order of the image.
func plainNumbers(h api.Head) [8]uint64 {
	return [8]uint64{uint64(h.Number), uint64(h.First), uint64(h.Count), uint64(h.Min), uint64(h.Max), uint64(h.Generation), uint64(h.Raw), uint64(h.Packed)}
}

// plainTold is the head of lines that may be.
func plainTold(h api.Head, l []api.Line) api.Head {
	payload, _, _ := record.Encode(l)
	packed, _ := lz4.Compress(payload, h.Level)
	var stamps []int
	for _, line := range l {
		stamps = append(stamps, line.Stamp)
	}
	return api.Head{Number: h.Number, First: h.First, Generation: h.Generation, Level: h.Level, Count: len(l), Min: slices.Min(stamps), Max: slices.Max(stamps), Raw: len(payload), Packed: len(packed)}
}

func plainSeal(h api.Head, l []api.Line) (string, *Fault) {
	for _, n := range []int{h.Number, h.First, h.Generation} {
		if n < 0 || n > 1152921504606846976 {
			return "", &Fault{0, api.ErrArg}
		}
	}
	if h.Level != 0 && h.Level != 1 && h.Level != 2 {
		return "", &Fault{0, api.ErrArg}
	}
	if len(l) == 0 {
		return "", &Fault{0, api.ErrNone}
	}
	payload, e, n := record.Encode(l)
	if e != api.OK {
		return "", &Fault{n, e}
	}
	packed, _ := lz4.Compress(payload, h.Level)
	return plainImage(plainNumbers(plainTold(h, l)), byte(h.Level), packed), nil
}

func plainLook(b string) (api.Head, *Fault) {
	if len(b) < 73 {
		return api.Head{}, &Fault{len(b), api.ErrShort}
	}
	if b[:4] != "DRG1" {
		return api.Head{}, &Fault{0, api.ErrMagic}
	}
	if b[69:73] != plainSum(b[:69]) {
		return api.Head{}, &Fault{69, api.ErrSum}
	}
	at := func(place int) uint64 { return binary.LittleEndian.Uint64([]byte(b[place : place+8])) }
	for _, c := range []struct {
		place int
		wrong bool
	}{
		{4, at(4) > 1152921504606846976},
		{12, at(12) > 1152921504606846976},
		{20, at(20) == 0 || at(20) > 131072},
		{28, at(28) > 253402300799999},
		{36, at(36) < at(28) || at(36) > 253402300799999},
		{44, at(44) > 1152921504606846976},
		{52, at(52) == 0 || at(52) > 131072},
		{60, at(60) == 0 || at(60) > 131602},
		{68, b[68] > 2},
	} {
		if c.wrong {
			return api.Head{}, &Fault{c.place, api.ErrForm}
		}
	}
	return api.Head{Number: int(at(4)), First: int(at(12)), Count: int(at(20)), Min: int(at(28)), Max: int(at(36)), Generation: int(at(44)), Raw: int(at(52)), Packed: int(at(60)), Level: int(b[68])}, nil
}

func plainOpen(b string) (api.Head, []api.Line, *Fault) {
	no := func(at int, e api.Errno) (api.Head, []api.Line, *Fault) { return api.Head{}, nil, &Fault{at, e} }
	h, f := plainLook(b)
	if f != nil {
		return no(f.At, f.Code)
	}
	behind := 73 + h.Packed
	if len(b) < behind+4 {
		return no(len(b), api.ErrShort)
	}
	if len(b) > behind+4 {
		return no(behind+4, api.ErrRest)
	}
	packed := b[73:behind]
	if b[behind:] != plainSum(packed) {
		return no(behind, api.ErrSum)
	}
	payload, e, at := lz4.Expand(packed, h.Raw)
	if e != api.OK {
		return no(73+at, e)
	}
	if len(payload) != h.Raw {
		return no(52, api.ErrSize)
	}
	l, e, _ := record.Decode(payload)
	if e != api.OK {
		return no(73, e)
	}
	if len(l) != h.Count {
		return no(20, api.ErrSize)
	}
	told := plainTold(h, l)
	if told.Min != h.Min {
		return no(28, api.ErrSize)
	}
	if told.Max != h.Max {
		return no(36, api.ErrSize)
	}
	if again, _ := lz4.Compress(payload, h.Level); again != packed {
		return no(73, api.ErrForm)
	}
	return h, l, nil
}

// same tells whether an error is this Fault, or none where there is none.
func same(e error, f *Fault) bool {
	if f == nil {
		return e == nil
	}
	var got *Fault
	return errors.As(e, &got) && *got == *f && errors.Is(e, f.Code) && got.Unwrap() == error(f.Code) && !errors.Is(e, f.Code+1)
}

func holdsSeal(t *testing.T, h api.Head, l []api.Line) {
	t.Helper()
	got, e := Seal(h, l)
	want, f := plainSeal(h, l)
	if got != want || !same(e, f) {
		t.Fatalf("Seal(%v, %.200v) = %.100x, %v, want %.100x, %v", h, l, got, e, want, f)
	}
}

func holdsLook(t *testing.T, b string) {
	t.Helper()
	got, e := Look(b)
	want, f := plainLook(b)
	if got != want || !same(e, f) {
		t.Fatalf("Look(%.100x) = %v, %v, want %v, %v", b, got, e, want, f)
	}
}

func holdsOpen(t *testing.T, b string) {
	t.Helper()
	holdsLook(t, b)
	h, l, e := Open(b)
	head, lines, f := plainOpen(b)
	if h != head || !slices.Equal(l, lines) || !same(e, f) {
		t.Fatalf("Open(%.200x) = %v, %.100v, %v, want %v, %.100v, %v", b, h, l, e, head, lines, f)
	}
	if e == nil { // 18.4
		if again, e := Seal(h, l); again != b || e != nil {
			t.Fatalf("Open(%.200x), sealed again: %.200x, %v", b, again, e)
		}
	}
}

// sealed is an image that must be.
func sealed(t *testing.T, h api.Head, l []api.Line) string {
	t.Helper()
	b, e := Seal(h, l)
	if e != nil {
		t.Fatalf("Seal(%v, %.200v): %v", h, l, e)
	}
	return b
}

// few is what the chapter's first example seals.
var few = []api.Line{{Stamp: 5, Text: "ab"}, {Stamp: 3}}

var fewHead = api.Head{Number: 1, First: 2, Count: 2, Min: 3, Max: 5, Generation: 3, Level: 1, Raw: 7, Packed: 8}

const fewPacked = "\x70\x02\x0a\x03\x02\x00ab"

func linesByChance(source *rand.Rand, most int) []api.Line {
	words := []string{"GET ", "/a", "status=200", " ", "error: timeout", "\x00", "\xff", "x", "GET /index.html status="}
	l := make([]api.Line, 1+source.Intn(most))
	stamp := source.Intn(1 << (1 + source.Intn(47)))
	for n := range l {
		var text strings.Builder
		for range source.Intn(8) {
			text.WriteString(words[source.Intn(len(words))])
		}
		stamp += source.Intn(2001) - 1000
		stamp = min(max(stamp, 0), api.MaxStamp)
		l[n] = api.Line{Stamp: stamp, Text: text.String()}
	}
	return l
}

func headByChance(source *rand.Rand) api.Head {
	number := func() int { return source.Intn(1<<source.Intn(61) + 1) }
	return api.Head{Number: number(), First: number(), Generation: number(), Level: source.Intn(3)}
}

// noise is a Text of so many bytes that no level packs.
func noise(source *rand.Rand, bytes int) string {
	b := make([]byte, bytes)
	for i := range b {
		b[i] = byte(source.Intn(255))
		if b[i] == '\n' {
			b[i] = 255
		}
	}
	return string(b)
}

// great is lists whose payloads are as long as they may be, or nearly.
func great() [][]api.Line {
	source := rand.New(rand.NewSource(18))
	var random, alike []api.Line
	for range 15 {
		random = append(random, api.Line{Text: noise(source, 8192)})
		alike = append(alike, api.Line{Stamp: api.MaxStamp - 1, Text: strings.Repeat("x", 8192)})
	}
	random = append(random, api.Line{Text: noise(source, 8143)})
	return [][]api.Line{random, alike, make([]api.Line, 65534), linesByChance(source, 2000)}
}

// with is a text in which the byte at a place is another one.
func with(b string, at int, x byte) string { return b[:at] + string([]byte{x}) + b[at+1:] }

// standsIn tells whether a text's memory is a piece of another one's.
func standsIn(s, of string) bool {
	if s == "" || of == "" {
		return false
	}
	at, from := uintptr(unsafe.Pointer(unsafe.StringData(s))), uintptr(unsafe.Pointer(unsafe.StringData(of)))
	return from <= at && at < from+uintptr(len(of))
}
