package code

import (
	"encoding/binary"
	"strings"
	"testing"

	"dragnet/api"
)

func TestUint(t *testing.T) { // 3.1
	for _, c := range []struct {
		n    uint64
		want string
	}{
		{0, "\x00"}, {127, "\x7f"}, {128, "\x80\x01"}, {300, "\xac\x02"}, {16383, "\xff\x7f"}, {16384, "\x80\x80\x01"},
		{1 << 63, strings.Repeat("\x80", 9) + "\x01"}, {1<<64 - 1, strings.Repeat("\xff", 9) + "\x01"},
	} {
		if got := Uint(c.n); got != c.want {
			t.Errorf("Uint(%d) = %x, want %x", c.n, got, c.want)
		}
	}
	for _, n := range numbers() {
		got := Uint(n)
		if want := plainUint(n); got != want {
			t.Errorf("Uint(%d) = %x, want %x", n, got, want)
		}
		if published := binary.AppendUvarint(nil, n); got != string(published) {
			t.Errorf("Uint(%d) = %x, published %x", n, got, published)
		}
	}
}

func TestInt(t *testing.T) { // 3.1
	for n, want := range map[int]string{
		0: "\x00", -1: "\x01", 1: "\x02", -2: "\x03", 63: "\x7e", -64: "\x7f", 64: "\x80\x01", -65: "\x81\x01",
		greatest: "\xfe" + strings.Repeat("\xff", 8) + "\x01", least: strings.Repeat("\xff", 9) + "\x01",
	} {
		if got := Int(n); got != want {
			t.Errorf("Int(%d) = %x, want %x", n, got, want)
		}
	}
	for _, n := range ints() {
		got := Int(n)
		if want := plainNumber(plainWritten(n)); got != want {
			t.Errorf("Int(%d) = %x, want %x", n, got, want)
		}
		if published := binary.AppendVarint(nil, int64(n)); got != string(published) {
			t.Errorf("Int(%d) = %x, published %x", n, got, published)
		}
	}
}

func TestText(t *testing.T) { // 3.1
	if got := Text("ab"); got != "\x02ab" {
		t.Errorf("Text(ab) = %x", got)
	}
	for _, s := range texts() {
		if got, want := Text(s), plainUint(uint64(len(s)))+s; got != want {
			t.Errorf("Text of %d bytes = %x, want %x", len(s), got, want)
		}
	}
}

func wantFixed(n uint64, width int) (string, api.Errno) {
	if width < 1 || width > 8 {
		return "", api.ErrArg
	}
	digits := lowestFirst(number(n), 8)
	if len(digits) > width {
		return "", api.ErrOver
	}
	return string(digits) + strings.Repeat("\x00", width-len(digits)), api.OK
}

func TestFixed(t *testing.T) { // 3.1
	for _, c := range []struct {
		n     uint64
		width int
		want  string
		e     api.Errno
	}{
		{258, 3, "\x02\x01\x00", api.OK}, {0, 1, "\x00", api.OK}, {255, 1, "\xff", api.OK}, {256, 1, "", api.ErrOver}, {0, 9, "", api.ErrArg},
		{1<<64 - 1, 8, "\xff\xff\xff\xff\xff\xff\xff\xff", api.OK}, {1<<64 - 1, 7, "", api.ErrOver}, {1<<64 - 1, 0, "", api.ErrArg},
	} {
		if got, e := Fixed(c.n, c.width); got != c.want || e != c.e {
			t.Errorf("Fixed(%d, %d) = %x, %v", c.n, c.width, got, e)
		}
	}
	for _, n := range numbers() {
		for _, width := range []int{least, -8, -1, 0, 1, 2, 3, 4, 5, 6, 7, 8, 9, 10, 64, 256, greatest} {
			got, e := Fixed(n, width)
			if want, why := wantFixed(n, width); got != want || e != why {
				t.Errorf("Fixed(%d, %d) = %x, %v, want %x, %v", n, width, got, e, want, why)
			}
		}
	}
}

func TestNoneBeginsWithAnother(t *testing.T) { // 3.5
	all := numbers()
	for _, n := range all {
		for _, m := range all {
			if n != m && strings.HasPrefix(Uint(n), Uint(m)) {
				t.Fatalf("Uint(%d) = %x begins with Uint(%d)", n, Uint(n), m)
			}
			if i, j := int(n), int(m); i != j && strings.HasPrefix(Int(i), Int(j)) {
				t.Fatalf("Int(%d) = %x begins with Int(%d)", i, Int(i), j)
			}
		}
	}
}
