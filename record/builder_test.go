package record

import (
	"math"
	"math/rand"
	"slices"
	"strings"
	"testing"

	"dragnet/api"
)

// holdsLines holds a Builder against the lines that it must have.
func holdsLines(t *testing.T, b *Builder, l []api.Line) {
	t.Helper()
	least, greatest := 0, 0
	for n, x := range l {
		if n == 0 || x.Stamp < least {
			least = x.Stamp
		}
		greatest = max(greatest, x.Stamp)
		if got, is := b.Line(n); got != x || !is {
			t.Fatalf("Line(%d) = %.50v, %v, want %.50v", n, got, is, x)
		}
	}
	if b.Len() != len(l) || b.Min() != least || b.Max() != greatest {
		t.Fatalf("Len %d, Min %d, Max %d, want %d, %d, %d", b.Len(), b.Min(), b.Max(), len(l), least, greatest)
	}
	for _, n := range []int{-1, len(l), len(l) + 1, math.MinInt, math.MaxInt} {
		if got, is := b.Line(n); got != (api.Line{}) || is {
			t.Fatalf("Line(%d) of %d = %v, %v", n, len(l), got, is)
		}
	}
	if payload := b.Bytes(); payload != plainPayload(l) || b.Size() != len(payload) { // 17.5
		t.Fatalf("Bytes %.50x, Size %d, want %.50x", payload, b.Size(), plainPayload(l))
	}
}

func TestBuilder(t *testing.T) { // 17.4
	b := New()
	holdsLines(t, b, nil)
	if b.Size() != 1 || b.Bytes() != "\x00" {
		t.Errorf("of no lines: Size %d, Bytes %x", b.Size(), b.Bytes())
	}
	var l []api.Line
	for _, c := range []struct {
		line           api.Line
		size, min, max int
	}{
		{api.Line{Stamp: 5, Text: "ab"}, 5, 5, 5}, {api.Line{Stamp: 3}, 7, 3, 5}, {api.Line{Stamp: 4, Text: "c"}, 10, 3, 5}, {api.Line{Stamp: 70}, 13, 3, 70}, {api.Line{}, 16, 0, 70}, {api.Line{Stamp: 1, Text: strings.Repeat("x", 128)}, 147, 0, 70},
	} {
		e := b.Add(c.line)
		if e != api.OK || b.Size() != c.size || b.Min() != c.min || b.Max() != c.max {
			t.Errorf("Add(%v): %v, Size %d, Min %d, Max %d", c.line, e, b.Size(), b.Min(), b.Max())
		}
		l = append(l, c.line)
		holdsLines(t, b, l)
	}
}

// TestBuilderStamps: of a first line above 0, of stamps that fall, and of steps at which a byte more is needed.
func TestBuilderStamps(t *testing.T) { // 17.4
	lists := [][]int{{7}, {0}, {7, 9}, {9, 7}, {api.MaxStamp}, {api.MaxStamp, 0}, {3, 3, 2, 2, 8}, {0, 5}}
	for _, step := range []int{62, 63, 64, 65, 66, 8190, 8191, 8192, 8193} {
		lists = append(lists, []int{step}, []int{0, step}, []int{step, 0}, []int{100, 100 + step, 100})
	}
	for _, stamps := range lists {
		b := New()
		var l []api.Line
		for _, stamp := range stamps {
			l = append(l, api.Line{Stamp: stamp})
			b.Add(l[len(l)-1])
			holdsLines(t, b, l)
		}
		if b.Min() != slices.Min(stamps) || b.Max() != slices.Max(stamps) {
			t.Errorf("of %v: Min %d, Max %d", stamps, b.Min(), b.Max())
		}
	}
}

func TestBuilderRefuses(t *testing.T) { // 17.4
	for _, l := range [][]api.Line{nil, {{Stamp: 5, Text: "ab"}, {Stamp: 3}}} {
		b := New()
		for _, x := range l {
			b.Add(x)
		}
		for _, c := range []struct {
			line api.Line
			e    api.Errno
		}{
			{api.Line{Stamp: -1}, api.ErrStamp}, {api.Line{Stamp: api.MaxStamp + 1}, api.ErrStamp}, {api.Line{Stamp: math.MinInt}, api.ErrStamp}, {api.Line{Stamp: math.MaxInt}, api.ErrStamp},
			{api.Line{Text: "\n"}, api.ErrLine}, {api.Line{Text: "x\ny"}, api.ErrLine}, {api.Line{Text: strings.Repeat("x", 8193)}, api.ErrLine}, {api.Line{Stamp: -1, Text: "\n"}, api.ErrLine}, {api.Line{Stamp: -1, Text: strings.Repeat("x", 200000)}, api.ErrLine},
		} {
			if e := b.Add(c.line); e != c.e {
				t.Errorf("Add(%.50v): %v, want %v", c.line, e, c.e)
			}
			holdsLines(t, b, l)
		}
	}
}

func TestBuilderMost(t *testing.T) { // 17.4
	b := New()
	var l []api.Line
	for range 15 {
		l = append(l, api.Line{Text: strings.Repeat("x", 8192)})
		if e := b.Add(l[0]); e != api.OK {
			t.Fatalf("a long line: %v", e)
		}
	}
	for _, c := range []struct {
		line api.Line
		e    api.Errno
	}{
		{api.Line{Text: strings.Repeat("y", 8192)}, api.ErrMost}, {api.Line{Text: strings.Repeat("y", 8144)}, api.ErrMost}, {api.Line{Stamp: 64, Text: strings.Repeat("y", 8143)}, api.ErrMost},
		{api.Line{Stamp: -1, Text: strings.Repeat("y", 8192)}, api.ErrStamp}, {api.Line{Text: strings.Repeat("y", 8192) + "\n"}, api.ErrLine},
	} {
		if e := b.Add(c.line); e != c.e {
			t.Errorf("Add(%.50v): %v, want %v", c.line, e, c.e)
		}
		holdsLines(t, b, l)
	}
	last := api.Line{Text: strings.Repeat("y", 8143)}
	if e := b.Add(last); e != api.OK || b.Size() != api.MaxRaw {
		t.Errorf("Add of what has just room: %v, Size %d", e, b.Size())
	}
	l = append(l, last)
	if e := b.Add(api.Line{}); e != api.ErrMost {
		t.Errorf("Add without room: %v", e)
	}
	holdsLines(t, b, l)
}

// TestBuilderCount: with the 128th line their number gets a byte more, and that one has no room either.
func TestBuilderCount(t *testing.T) { // 17.4
	for _, c := range []struct {
		room int
		e    api.Errno
	}{{2, api.ErrMost}, {3, api.OK}} {
		b := New()
		l := shared(api.MaxRaw-1-2*127-c.room, 127)
		for _, x := range l {
			if e := b.Add(x); e != api.OK {
				t.Fatalf("Add: %v", e)
			}
		}
		if b.Size() != api.MaxRaw-c.room {
			t.Fatalf("Size %d, want %d less than the most", b.Size(), c.room)
		}
		e := b.Add(api.Line{})
		if e != c.e {
			t.Errorf("with room for %d bytes: %v, want %v", c.room, e, c.e)
		}
		if e == api.OK {
			l = append(l, api.Line{})
		}
		holdsLines(t, b, l)
	}
}

func TestBuilderAny(t *testing.T) { // 17.4, 17.5
	source := rand.New(rand.NewSource(174))
	for range 60 {
		b := New()
		var l []api.Line
		for range source.Intn(150) {
			x := api.Line{Stamp: stampByChance(source), Text: textByChance(source)}
			switch source.Intn(8) {
			case 0:
				x.Text += "\n"
			case 1:
				x.Stamp = -1 - x.Stamp
			}
			e := b.Add(x)
			if e != plainRefuses(x) {
				t.Fatalf("Add(%v): %v", x, e)
			}
			if e == api.OK {
				l = append(l, x)
			}
			holdsLines(t, b, l)
		}
		payload, e, _ := Encode(l)
		if e != api.OK || payload != b.Bytes() {
			t.Fatalf("Bytes of %d lines: %.50x, Encode: %.50x, %v", len(l), b.Bytes(), payload, e)
		}
	}
}

func TestBuilderFull(t *testing.T) { // 17.4, 17.5: until there is no room, Encode takes what Add takes
	source := rand.New(rand.NewSource(175))
	for range 4 {
		b := New()
		var l []api.Line
		for refused := 0; refused < 20; {
			x := api.Line{Stamp: stampByChance(source), Text: strings.Repeat("z", source.Intn(1<<source.Intn(14)))}
			x.Text = x.Text[:min(len(x.Text), api.MaxLine)]
			e := b.Add(x)
			_, why, _ := Encode(append(l, x))
			if e != why {
				t.Fatalf("Add behind %d lines, %d bytes: %v, Encode: %v", len(l), b.Size(), e, why)
			}
			if e == api.OK {
				l = append(l, x)
			} else {
				refused++
			}
			if b.Size() > api.MaxRaw || len(b.Bytes()) != b.Size() {
				t.Fatalf("Size %d, Bytes %d", b.Size(), len(b.Bytes()))
			}
		}
		holdsLines(t, b, l)
	}
}

func TestBuilderKeepsAway(t *testing.T) { // 17.4, P3: what was told stays as it was, two Builders have nothing to do with one another
	b, other := New(), New()
	b.Add(api.Line{Stamp: 1, Text: "one"})
	first, _ := b.Line(0)
	payload := b.Bytes()
	for n := range 100 {
		b.Add(api.Line{Stamp: n, Text: "more"})
	}
	again, _ := b.Line(0)
	if first != (api.Line{Stamp: 1, Text: "one"}) || payload != "\x01\x02\x03one" {
		t.Errorf("what was told has changed: %v, %x", first, payload)
	}
	if standsIn(first.Text, again.Text) || standsIn(b.Bytes(), b.Bytes()) {
		t.Error("two answers share their memory")
	}
	holdsLines(t, other, nil)
}
