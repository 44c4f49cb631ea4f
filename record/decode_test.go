package record

import (
	"encoding/binary"
	"maps"
	"math/rand"
	"slices"
	"strings"
	"testing"

	"dragnet/api"
)

func holdsDecode(t *testing.T, b string) {
	t.Helper()
	got, e, at := Decode(b)
	want, why, place := plainDecode(b)
	if !slices.Equal(got, want) || e != why || at != place {
		t.Fatalf("Decode(%.80x) = %.80v, %v, %d, want %.80v, %v, %d", b, got, e, at, want, why, place)
	}
	if e == api.OK { // 17.5
		if again, e, _ := Encode(got); again != b || e != api.OK {
			t.Fatalf("Decode(%.80x), encoded again: %.80x, %v", b, again, e)
		}
	}
	n := 0
	for number, l := range All(b) { // 17.3
		if number != n || n >= len(got) || l != got[n] {
			t.Fatalf("All(%.80x): %d, %.80v, the %d-th one of %d", b, number, l, n, len(got))
		}
		n++
	}
	if n != len(got) {
		t.Fatalf("All(%.80x): %d lines of %d", b, n, len(got))
	}
}

func written(stamp int) string { return string(binary.AppendVarint(nil, int64(stamp))) }

func TestDecode(t *testing.T) { // 17.2
	nines, eights := strings.Repeat("\xff", 9), strings.Repeat("\x80", 9)
	longest := strings.Repeat("x", 8192)
	most, above := written(api.MaxStamp), written(api.MaxStamp+1)
	down, below := written(-api.MaxStamp), written(-api.MaxStamp-1)
	for _, c := range []struct {
		b  string
		e  api.Errno
		at int
	}{
		// how many
		{"", api.ErrShort, 0}, {"\x80", api.ErrShort, 0}, {"\x80\x00", api.ErrForm, 0}, {nines + "\x02", api.ErrOver, 0}, {eights + "\x00", api.ErrForm, 0}, {nines + "\x01", api.ErrShort, 10}, {"\x00", api.OK, 0}, {"\x00\x00", api.ErrRest, 1}, {"\x00\n\x00", api.ErrRest, 1},
		// stamps
		{"\x01", api.ErrShort, 1}, {"\x01\x80", api.ErrShort, 1}, {"\x01\x80\x00", api.ErrForm, 1}, {"\x01" + nines + "\x02", api.ErrOver, 1}, {"\x01\x01\x00", api.ErrStamp, 1}, {"\x02\x02\x03\x00\x00", api.ErrStamp, 2}, {"\x02\x02\x01\x00\x00", api.OK, 0}, {"\x02\x02", api.ErrShort, 2},
		{"\x01" + most + "\x00", api.OK, 0}, {"\x01" + above + "\x00", api.ErrStamp, 1}, {"\x02" + most + "\x02\x00\x00", api.ErrStamp, 8}, {"\x02" + most + down + "\x00\x00", api.OK, 0}, {"\x02" + most + below + "\x00\x00", api.ErrStamp, 8}, {"\x02\x02" + most + "\x00\x00", api.ErrStamp, 2},
		{"\x01\xfe" + nines[1:] + "\x01", api.ErrStamp, 1}, {"\x01" + nines + "\x01", api.ErrStamp, 1}, {"\x02\x02\xfe" + nines[1:] + "\x01", api.ErrStamp, 2}, {"\x02\x02" + nines + "\x01", api.ErrStamp, 2}, {"\x02\x00" + nines + "\x01", api.ErrStamp, 2},
		// lengths
		{"\x01\x00", api.ErrShort, 2}, {"\x01\x00\x80", api.ErrShort, 2}, {"\x01\x00\x80\x00", api.ErrForm, 2}, {"\x01\x00" + nines + "\x02", api.ErrOver, 2}, {"\x01\x00" + nines + "\x01", api.ErrLine, 2}, {"\x01\x00" + eights + "\x01", api.ErrLine, 2}, {"\x01\x00\x81\x40", api.ErrLine, 2}, {"\x01\x00\x80\x40", api.ErrShort, 4}, {"\x02\x00\x00\x00\x81\x40", api.ErrLine, 4}, {"\x02\x00\x00\x01", api.ErrShort, 4},
		{"\x01\x00\x80\x40" + longest, api.OK, 0}, {"\x01\x00\x81\x40" + longest + "x", api.ErrLine, 2},
		// Texts
		{"\x01\x00\x01\n", api.ErrLine, 3}, {"\x01\x00\x03\nx", api.ErrShort, 5}, {"\x01\x00\x02a", api.ErrShort, 4}, {"\x01\x00\x02a\n\n", api.ErrLine, 4}, {"\x02\x00\x00\x02\x02a\nb", api.ErrLine, 6}, {"\x02\x00\x00\x02\x02abc", api.ErrShort, 8}, {"\x02\x00\x00\x02\x02abc\n", api.ErrLine, 8}, {"\x02\x00\x00\x00\x01", api.ErrShort, 5},
		// what is left
		{"\x02\x0a\x03\x02\x00ab", api.OK, 0}, {"\x02\x0a\x03\x02\x00abc", api.ErrRest, 7}, {"\x02\x0a\x03\x02\x00ab\n\n", api.ErrRest, 7}, {"\x02\x0a\x03\x02\x00a", api.ErrShort, 6}, {"\x01\x00\x00x", api.ErrRest, 3},
	} {
		if l, e, at := Decode(c.b); e != c.e || at != c.at || e != api.OK && len(l) > 0 {
			t.Errorf("Decode(%.50x) = %.50v, %v, %d, want %v, %d", c.b, l, e, at, c.e, c.at)
		}
		holdsDecode(t, c.b)
	}
}

func TestDecodeMost(t *testing.T) { // 17.2
	l := slices.Repeat([]api.Line{{Text: strings.Repeat("x", 8192)}}, 15)
	l = append(l, api.Line{Text: strings.Repeat("y", 8143)})
	b := plainPayload(l)
	if len(b) != api.MaxRaw {
		t.Fatalf("the payload has %d bytes", len(b))
	}
	holdsDecode(t, b)
	for _, more := range []string{b + "x", plainPayload(append(l, api.Line{})), strings.Repeat("\x00", 131073), strings.Repeat("\n", 1<<20)} {
		if l, e, at := Decode(more); len(l) > 0 || e != api.ErrMost || at != api.MaxRaw {
			t.Errorf("Decode of %d bytes: %d lines, %v, %d", len(more), len(l), e, at)
		}
		holdsDecode(t, more)
	}
	for _, b := range []string{strings.Repeat("\x00", 131072), strings.Repeat("\x01", 131072), strings.Repeat("\x7f", 131072), strings.Repeat("\xff", 131072), "\xff\xff\x07" + strings.Repeat("\x00", 131069)} {
		holdsDecode(t, b)
	}
}

func TestDecodeShort(t *testing.T) { // 17.2, 17.5: each text of a few bytes
	for _, b := range spelt("\x00\x01\x02\x03\n\x80\x81", 6) {
		holdsDecode(t, b)
	}
	for _, b := range spelt("\x00\x01\xff", 11) {
		holdsDecode(t, b)
	}
}

func TestDecodeSpoilt(t *testing.T) { // 17.2, 17.5
	source := rand.New(rand.NewSource(172))
	for range 20000 {
		b := []byte(plainPayload(linesByChance(source, 6)))
		for range 1 + source.Intn(2) {
			at := source.Intn(len(b))
			switch source.Intn(5) {
			case 0:
				b = b[:at+1]
			case 1:
				b = slices.Insert(b, at, byte(source.Intn(256)))
			case 2:
				b[at] ^= 1 << source.Intn(8)
			case 3:
				b = slices.Insert(b, min(at, 1), slices.Repeat([]byte{0xff}, source.Intn(11))...)
			case 4:
				b[min(at, 4)] = byte(source.Intn(256))
			}
		}
		holdsDecode(t, string(b))
	}
}

func TestDecodeCut(t *testing.T) { // 17.2: each beginning of a payload, and each with a byte turned
	for _, l := range [][]api.Line{{{Stamp: 5, Text: "ab"}, {Stamp: 3}}, {{Stamp: 1763208000000, Text: "x"}, {Stamp: api.MaxStamp, Text: strings.Repeat("y", 130)}, {Text: "z"}}} {
		b := plainPayload(l)
		for at := range len(b) {
			holdsDecode(t, b[:at])
			for x := range 256 {
				holdsDecode(t, b[:at]+string([]byte{byte(x)})+b[at+1:])
			}
		}
	}
}

// TestOneForm: no bytes are lines in two ways, so lists that are unlike have payloads that are.
func TestOneForm(t *testing.T) { // 17.5
	byPayload := map[string][]api.Line{}
	texts := []string{"", "a", "b", "aa", "ab"}
	var all [][]api.Line
	for _, one := range texts {
		for stamp := range 3 {
			all = append(all, []api.Line{{Stamp: stamp, Text: one}})
			for _, two := range texts {
				all = append(all, []api.Line{{Stamp: stamp, Text: one}, {Stamp: 1, Text: two}}, []api.Line{{Stamp: 1, Text: one}, {Stamp: stamp + 2, Text: two}, {}})
			}
		}
	}
	for _, l := range all {
		b, _, _ := Encode(l)
		if had, is := byPayload[b]; is {
			t.Fatalf("%v and %v have one payload: %x", had, l, b)
		}
		byPayload[b] = l
	}
}

func TestDecodeKeepsAway(t *testing.T) { // 17.2, 17.3, P3
	b := strings.Clone("\x02\x0a\x03\x02\x02abcd")
	one, _, _ := Decode(b)
	two, _, _ := Decode(b)
	for _, l := range [][]api.Line{one, two, slices.Collect(maps.Values(maps.Collect(All(b))))} {
		for _, x := range l {
			if standsIn(x.Text, b) {
				t.Errorf("the Text %s is a piece of the payload", x.Text)
			}
		}
	}
	one[0] = api.Line{}
	one = append(one, api.Line{Text: "more"})
	if two[0].Text != "ab" || len(two) != 2 || len(one) != 3 {
		t.Errorf("two answers share their memory: %v", two)
	}
}

func TestAll(t *testing.T) { // 17.3
	all := All("\x03\x0a\x03\x00\x02\x00\x01abc")
	want := []api.Line{{Stamp: 5, Text: "ab"}, {Stamp: 3}, {Stamp: 3, Text: "c"}}
	for range 2 { // gone over again
		var got []api.Line
		for n, l := range all {
			if n != len(got) {
				t.Errorf("the number %d of the line %d", n, len(got))
			}
			got = append(got, l)
		}
		if !slices.Equal(got, want) {
			t.Errorf("All: %v", got)
		}
	}
	for n := range all { // left early
		if n == 1 {
			break
		}
	}
	pairs := 0
	for a := range all { // within itself
		for b, l := range all {
			if l != want[b] {
				t.Errorf("within %d: %d, %v", a, b, l)
			}
			pairs++
		}
	}
	if pairs != 9 {
		t.Errorf("%d pairs of three lines", pairs)
	}
	for _, b := range []string{"", "\x00", "\x01", "\x02\x0a\x03\x02\x00abc", "\x02\x0a\x03\x01\x01a", strings.Repeat("\x00", 131073)} {
		for n, l := range All(b) {
			t.Errorf("All(%.20x): %d, %v", b, n, l)
		}
	}
}
