package record

import (
	"math"
	"math/rand"
	"slices"
	"strings"
	"testing"

	"dragnet/api"
)

func holdsEncode(t *testing.T, l []api.Line) {
	t.Helper()
	got, e, at := Encode(l)
	want, why, number := plainEncode(l)
	if got != want || e != why || at != number {
		t.Fatalf("Encode(%.200v) = %.50x, %v, %d, want %.50x, %v, %d", l, got, e, at, want, why, number)
	}
}

func TestEncode(t *testing.T) { // 17.1
	longest := strings.Repeat("x", 8192)
	for _, c := range []struct {
		l    []api.Line
		want string
		e    api.Errno
		at   int
	}{
		{nil, "\x00", api.OK, 0}, {[]api.Line{}, "\x00", api.OK, 0}, {[]api.Line{{}}, "\x01\x00\x00", api.OK, 0},
		{[]api.Line{{Stamp: 5, Text: "ab"}, {Stamp: 3}}, "\x02\x0a\x03\x02\x00ab", api.OK, 0},
		{[]api.Line{{Stamp: 64, Text: "a"}, {Stamp: 64, Text: "b"}}, "\x02\x80\x01\x00\x01\x01ab", api.OK, 0},
		{[]api.Line{{Text: longest}}, "\x01\x00\x80\x40" + longest, api.OK, 0},
		{[]api.Line{{Text: "a"}, {Stamp: -1}}, "", api.ErrStamp, 1}, {[]api.Line{{Text: "a\n"}}, "", api.ErrLine, 0}, {[]api.Line{{Text: "\n"}}, "", api.ErrLine, 0},
		{[]api.Line{{}, {Text: longest + "x"}}, "", api.ErrLine, 1}, {[]api.Line{{}, {}, {Stamp: api.MaxStamp + 1}}, "", api.ErrStamp, 2},
		{[]api.Line{{Stamp: -1, Text: "\n"}}, "", api.ErrLine, 0}, {[]api.Line{{Stamp: -1}, {Text: "\n"}}, "", api.ErrStamp, 0}, {[]api.Line{{Stamp: math.MinInt}}, "", api.ErrStamp, 0}, {[]api.Line{{Stamp: math.MaxInt}}, "", api.ErrStamp, 0},
	} {
		if got, e, at := Encode(c.l); got != c.want || e != c.e || at != c.at {
			t.Errorf("Encode(%.100v) = %.50x, %v, %d, want %.50x, %v, %d", c.l, got, e, at, c.want, c.e, c.at)
		}
		holdsEncode(t, c.l)
	}
}

func TestEncodeMost(t *testing.T) { // 17.1
	full := slices.Repeat([]api.Line{{Text: strings.Repeat("x", 8192)}}, 15) // 1 + 15 * (1 + 2 + 8192) = 122926 bytes
	for _, c := range []struct {
		more []api.Line
		e    api.Errno
		at   int
	}{
		{[]api.Line{{Text: strings.Repeat("y", 8143)}}, api.OK, 0},
		{[]api.Line{{Text: strings.Repeat("y", 8144)}}, api.ErrMost, 15},
		{[]api.Line{{Text: strings.Repeat("y", 8142), Stamp: 64}}, api.OK, 0},
		{[]api.Line{{Text: strings.Repeat("y", 8143), Stamp: 64}}, api.ErrMost, 15},
		{[]api.Line{{Text: strings.Repeat("y", 8143)}, {}}, api.ErrMost, 16},
		{[]api.Line{{Text: strings.Repeat("y", 8141)}, {}}, api.OK, 0},
		{[]api.Line{{Text: strings.Repeat("y", 8144)}, {Text: "\n"}}, api.ErrMost, 15},
		{[]api.Line{{Text: strings.Repeat("y", 8144), Stamp: -1}}, api.ErrStamp, 15},
		{[]api.Line{{Text: strings.Repeat("y", 8192) + "\n"}}, api.ErrLine, 15},
	} {
		l := slices.Concat(full, c.more)
		b, e, at := Encode(l)
		if e != c.e || at != c.at || e != api.OK && b != "" || e == api.OK && len(b) != api.MaxRaw {
			t.Errorf("with %.30v: %d bytes, %v, %d, want %v, %d", c.more, len(b), e, at, c.e, c.at)
		}
		holdsEncode(t, l)
	}
}

// TestEncodeMany: lines without a Text have two bytes; from the 128th and the 16384th on their number has one more.
func TestEncodeMany(t *testing.T) { // 17.1
	empty := make([]api.Line, 70000)
	if b, e, at := Encode(empty[:65534]); len(b) != 131071 || e != api.OK || at != 0 {
		t.Errorf("of 65534 empty lines: %d bytes, %v, %d", len(b), e, at)
	}
	if b, e, at := Encode(empty); b != "" || e != api.ErrMost || at != 65534 {
		t.Errorf("of 70000 empty lines: %d bytes, %v, %d", len(b), e, at)
	}
	for _, count := range []int{127, 16383} {
		texts := api.MaxRaw - 1 - 2*count
		if count == 16383 {
			texts--
		}
		for _, less := range []int{0, 1, 2, 3, 4} { // with the next line the number of lines gets a byte more
			l := shared(texts-less, count)
			if b, e, _ := Encode(l); len(b) != api.MaxRaw-less || e != api.OK {
				t.Fatalf("%d lines: %d bytes, %v", count, len(b), e)
			}
			size := len(plainPayload(append(l, api.Line{})))
			_, e, at := Encode(append(l, api.Line{}))
			if size > api.MaxRaw && (e != api.ErrMost || at != count) || size <= api.MaxRaw && e != api.OK {
				t.Errorf("%d lines, and one more: %d bytes, %v, %d", count, size, e, at)
			}
		}
	}
}

// shared is so many lines whose Texts, with the second bytes of their lengths, have so many bytes in all.
func shared(bytes, count int) []api.Line {
	l := make([]api.Line, count)
	for n := range l {
		have := min(bytes, 127)
		if bytes > 128 {
			have = min(bytes, api.MaxLine+1) - 1
			bytes--
		}
		l[n].Text = strings.Repeat("s", have)
		bytes -= have
	}
	return l
}

func TestEncodeAny(t *testing.T) { // 17.1
	source := rand.New(rand.NewSource(171))
	for _, l := range lists() {
		if len(l) < 1000 {
			holdsEncode(t, l)
		}
	}
	for range 3000 {
		l := linesByChance(source, 8)
		for n := range l {
			switch source.Intn(12) {
			case 0:
				l[n].Text += "\n" + l[n].Text
			case 1:
				l[n].Stamp = -source.Intn(1 << source.Intn(62))
			case 2:
				l[n].Stamp = api.MaxStamp + source.Intn(1<<source.Intn(62))
			case 3:
				l[n].Text = strings.Repeat("long", 2048) + strings.Repeat("x", source.Intn(2))
			}
		}
		holdsEncode(t, l)
	}
}

func TestEncodeOfDecode(t *testing.T) { // 17.5
	for _, l := range lists() {
		b, e, _ := Encode(l)
		if want := plainPayload(l); b != want || e != api.OK {
			t.Fatalf("Encode of %d lines: %.50x, %v, want %.50x", len(l), b, e, want)
		}
		got, e, at := Decode(b)
		if !slices.Equal(got, l) || e != api.OK || at != 0 {
			t.Fatalf("Decode of Encode of %d lines: %d lines, %v, %d", len(l), len(got), e, at)
		}
	}
}

func TestEncodeKeepsAway(t *testing.T) { // 17.1, P3
	l := []api.Line{{Stamp: 1, Text: "one"}, {Stamp: 2, Text: "two"}, {Stamp: 3, Text: "three"}}
	before := slices.Clone(l)
	b, _, _ := Encode(l[:2])
	again, _, _ := Encode(l[:2])
	if !slices.Equal(l, before) {
		t.Errorf("Encode has written into the lines: %v", l)
	}
	if b != again || standsIn(b, again) || standsIn(b, l[0].Text) {
		t.Error("two answers share their memory")
	}
}
