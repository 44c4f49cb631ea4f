package code

import (
	"encoding/base64"
	"math/rand"
	"testing"

	"dragnet/api"
)

func TestArmor(t *testing.T) { // 3.3
	for s, want := range map[string]string{"": "", "a": "YQ", "ab": "YWI", "abc": "YWJj", "\xff": "_w", "\xfb\xff": "-_8", "\x00": "AA"} {
		if got := Armor(s); got != want {
			t.Errorf("Armor(%x) = %s, want %s", s, got, want)
		}
	}
	for _, s := range texts() {
		got := Armor(s)
		if want := plainArmor(s); got != want {
			t.Errorf("Armor(%x) = %s, want %s", s, got, want)
		}
		if published := base64.RawURLEncoding.EncodeToString([]byte(s)); got != published {
			t.Errorf("Armor(%x) = %s, published %s", s, got, published)
		}
		if size := (8*len(s) + 5) / 6; len(got) != size {
			t.Errorf("Armor of %d bytes: %d characters, want %d", len(s), len(got), size)
		}
	}
}

func holdsPlain(t *testing.T, s string) {
	t.Helper()
	got, e, at := Plain(s)
	want, why, place := plainPlain(s)
	if got != want || e != why || at != place {
		t.Fatalf("Plain(%q) = %x, %v, %d, want %x, %v, %d", s, got, e, at, want, why, place)
	}
	if e == api.OK && Armor(got) != s { // 3.5
		t.Fatalf("Plain(%q) = %x, whose Armor is %q", s, got, Armor(got))
	}
}

func TestPlain(t *testing.T) { // 3.4
	for _, c := range []struct {
		s, want string
		e       api.Errno
		at      int
	}{
		{"", "", api.OK, 0}, {"YQ", "a", api.OK, 0}, {"YWI", "ab", api.OK, 0}, {"YWJj", "abc", api.OK, 0}, {"_w", "\xff", api.OK, 0},
		{"Y", "", api.ErrShort, 1}, {"YWJjY", "", api.ErrShort, 5}, {"YR", "", api.ErrForm, 1}, {"YWJ", "", api.ErrForm, 2},
		{"Y=", "", api.ErrChar, 1}, {"=", "", api.ErrChar, 0}, {"YWJj=", "", api.ErrChar, 4}, {"YR==", "", api.ErrChar, 2}, {"YWJjY\n", "", api.ErrChar, 5},
	} {
		if got, e, at := Plain(c.s); got != c.want || e != c.e || at != c.at {
			t.Errorf("Plain(%q) = %x, %v, %d, want %x, %v, %d", c.s, got, e, at, c.want, c.e, c.at)
		}
	}
	for _, s := range spelt("AQBwg_= ", 5) {
		holdsPlain(t, s)
	}
}

func TestPlainEachByte(t *testing.T) { // 3.4: each byte at each place, of each length's rest
	for _, s := range []string{"Y", "YQ", "YWI", "YWJj", "YWJjY", "YWJjYQ", "YWJjYWI", "YWJjYWJj"} {
		for at := range len(s) {
			for b := range 256 {
				holdsPlain(t, s[:at]+string([]byte{byte(b)})+s[at+1:])
			}
		}
	}
}

func TestPlainAny(t *testing.T) { // 3.4
	source := rand.New(rand.NewSource(34))
	for range 20000 {
		b := make([]byte, source.Intn(40))
		for i := range b {
			b[i] = plainCharacters[source.Intn(64)]
		}
		if len(b) > 0 && source.Intn(4) == 0 {
			b[source.Intn(len(b))] = byte(source.Intn(256))
		}
		holdsPlain(t, string(b))
	}
}

func TestPlainOfArmor(t *testing.T) { // 3.5
	for _, s := range texts() {
		if got, e, at := Plain(Armor(s)); got != s || e != api.OK || at != 0 {
			t.Errorf("Plain of Armor(%x) = %x, %v, %d", s, got, e, at)
		}
	}
}
