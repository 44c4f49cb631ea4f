package block

import (
	"errors"
	"math"
	"math/rand"
	"slices"
	"strings"
	"testing"

	"dragnet/api"
)

func TestSeal(t *testing.T) { // 18.1
	h := api.Head{Number: 1, First: 2, Generation: 3, Level: 1}
	number := func(n byte) string { return string([]byte{n, 0, 0, 0, 0, 0, 0, 0}) }
	head := "DRG1" + number(1) + number(2) + number(2) + number(3) + number(5) + number(3) + number(7) + number(8) + "\x01"
	want := head + plainSum(head) + fewPacked + plainSum(fewPacked)
	if got := sealed(t, h, few); got != want || len(got) != 73+8+4 {
		t.Errorf("Seal: %x, want %x", got, want)
	}
	for _, told := range []api.Head{{Count: -1}, {Min: math.MaxInt, Max: math.MinInt}, {Raw: 1 << 40, Packed: -1}} { // nothing else of it is looked at
		told.Number, told.First, told.Generation, told.Level = 1, 2, 3, 1
		if got := sealed(t, told, few); got != want {
			t.Errorf("Seal(%v): %x, want %x", told, got, want)
		}
	}
}

func TestSealRefuses(t *testing.T) { // 18.1
	most := 1 << 60
	for _, c := range []struct {
		h    api.Head
		l    []api.Line
		code api.Errno
		at   int
	}{
		{api.Head{Number: -1}, few, api.ErrArg, 0}, {api.Head{First: -1}, few, api.ErrArg, 0}, {api.Head{Generation: -1}, few, api.ErrArg, 0}, {api.Head{Level: -1}, few, api.ErrArg, 0},
		{api.Head{Number: most + 1}, few, api.ErrArg, 0}, {api.Head{First: most + 1}, few, api.ErrArg, 0}, {api.Head{Generation: most + 1}, few, api.ErrArg, 0}, {api.Head{Level: 3}, few, api.ErrArg, 0},
		{api.Head{Number: math.MinInt}, few, api.ErrArg, 0}, {api.Head{First: math.MaxInt}, few, api.ErrArg, 0}, {api.Head{Level: 256}, few, api.ErrArg, 0}, {api.Head{Level: math.MinInt}, few, api.ErrArg, 0},
		{api.Head{}, nil, api.ErrNone, 0}, {api.Head{}, []api.Line{}, api.ErrNone, 0}, {api.Head{Level: 3}, nil, api.ErrArg, 0}, {api.Head{First: -1}, []api.Line{{Stamp: -1}}, api.ErrArg, 0},
		{api.Head{}, []api.Line{{Text: "a"}, {Stamp: -1}}, api.ErrStamp, 1}, {api.Head{}, []api.Line{{}, {}, {Stamp: api.MaxStamp + 1}}, api.ErrStamp, 2}, {api.Head{}, []api.Line{{Text: "a\n"}}, api.ErrLine, 0}, {api.Head{Level: 2}, []api.Line{{}, {Text: strings.Repeat("x", 8193)}}, api.ErrLine, 1},
		{api.Head{}, slices.Repeat([]api.Line{{Text: strings.Repeat("x", 8192)}}, 16), api.ErrMost, 15}, {api.Head{Level: 1}, make([]api.Line, 65535), api.ErrMost, 65534},
	} {
		b, e := Seal(c.h, c.l)
		if b != "" || !same(e, &Fault{c.at, c.code}) {
			t.Errorf("Seal(%v, %.80v) = %.50x, %v, want %v at %d", c.h, c.l, b, e, c.code, c.at)
		}
		holdsSeal(t, c.h, c.l)
	}
}

func TestSealEdges(t *testing.T) { // 18.1
	most := 1 << 60
	edges := []int{math.MinInt, -1, 0, 1, 255, 256, most - 1, most, most + 1, math.MaxInt}
	for _, n := range edges {
		for _, level := range []int{-1, 0, 1, 2, 3, 4, 255, 256} {
			for _, h := range []api.Head{{Number: n, Level: level}, {First: n, Level: level}, {Generation: n, Level: level}, {Number: n, First: n, Generation: n, Level: level}} {
				holdsSeal(t, h, few)
				holdsSeal(t, h, nil)
			}
		}
	}
	for _, l := range [][]api.Line{{{}}, {{Stamp: api.MaxStamp}}, {{Stamp: api.MaxStamp}, {}}, {{}, {Stamp: api.MaxStamp}}, {{Stamp: 2}, {Stamp: 1}, {Stamp: 3}}, {{Stamp: 2}, {Stamp: 3}, {Stamp: 1}}} {
		for level := range 3 {
			holdsSeal(t, api.Head{Level: level}, l)
		}
	}
}

func TestSealAny(t *testing.T) { // 18.1
	source := rand.New(rand.NewSource(181))
	for range 2000 {
		h, l := headByChance(source), linesByChance(source, 12)
		switch at := source.Intn(len(l)); source.Intn(10) {
		case 0:
			l[at].Text += "\n"
		case 1:
			l[at].Stamp = -1
		case 2:
			l[at].Stamp = api.MaxStamp + 1
		case 3:
			h.Level = 3
		}
		holdsSeal(t, h, l)
	}
	for level := range 3 {
		for _, l := range great() {
			holdsSeal(t, api.Head{Level: level}, l)
		}
	}
}

func TestSealKeepsAway(t *testing.T) { // 18.1, P3
	l := []api.Line{{Stamp: 1, Text: "one"}, {Stamp: 2, Text: "two"}, {Stamp: -3, Text: "three\n"}}
	before := slices.Clone(l)
	b, again := sealed(t, api.Head{}, l[:2]), sealed(t, api.Head{}, l[:2])
	if !slices.Equal(l, before) {
		t.Errorf("Seal has written into the lines: %v", l)
	}
	if b != again || standsIn(b, again) || standsIn(b, l[0].Text) {
		t.Error("two answers share their memory")
	}
}

func TestFault(t *testing.T) { // 18.1
	_, first := Seal(api.Head{}, nil)
	_, second := Seal(api.Head{}, nil)
	var one, other *Fault
	if !errors.As(first, &one) || !errors.As(second, &other) || one == other {
		t.Error("two refusals share their Fault")
	}
	if !errors.Is(first, api.ErrNone) || errors.Is(first, api.ErrArg) || errors.Unwrap(first) != api.ErrNone {
		t.Errorf("the Fault %v is another one", first)
	}
	for _, f := range []*Fault{{}, {math.MinInt, -1}, {9, api.ErrSum}} {
		if f.Error() == "" || !errors.Is(f, f.Code) {
			t.Errorf("the Fault %d, %d says %q", f.At, f.Code, f.Error())
		}
	}
}
