package store

import (
	"fmt"
	"math"
	"math/rand"
	"slices"
	"strings"
	"testing"

	"dragnet/api"
	"dragnet/block"
	"dragnet/record"
)

// holdsRead holds Load and Mend of some bytes against the plain forms, with all that the stores answer.
func holdsRead(t *testing.T, b string) {
	t.Helper()
	s, e, at := Load(b)
	p, why, place := plainLoad(b)
	if (s == nil) != (p == nil) || e != why || at != place {
		t.Fatalf("Load(%x): %v, %d, want %v, %d", b, e, at, why, place)
	}
	if s != nil {
		holds(t, s, p)
		if s.Save() != b {
			t.Fatalf("Save of Load(%x): %x", b, s.Save())
		}
	}
	s, at = Mend(b)
	p, place = plainMend(b)
	if (s == nil) != (p == nil) || at != place {
		t.Fatalf("Mend(%x): %d, want %d", b, at, place)
	}
	if s != nil {
		holds(t, s, p)
	}
}

// appendedTo is a plain log to which lines were appended.
func appendedTo(c api.Config, stamps ...int) *plainStore {
	p := &plainStore{config: c}
	for _, stamp := range stamps {
		p.append(api.Line{Stamp: stamp, Text: fmt.Sprint("at ", stamp)})
	}
	return p
}

func TestSaveExample(t *testing.T) { // 19.7 to 19.9: example 4
	b := made(t, example).Save()
	if len(b) != 104 {
		t.Errorf("Save of a new store: %d bytes", len(b))
	}
	if s, e, at := Load(b[:103]); s != nil || e != api.ErrImage || at != 88 {
		t.Errorf("Load without the last byte: %v, %d", e, at)
	}
	s, at := Mend(b[:103])
	if at != 88 || s.Generation() != 1 {
		t.Errorf("Mend without the last byte: %d", at)
	}
	holds(t, s, &plainStore{config: example, generation: 1})
	if s, e, at := Load(""); s != nil || e != api.ErrImage || at != 0 {
		t.Errorf("Load of nothing: %v, %d", e, at)
	}
	if s, at := Mend(""); s != nil || at != 0 {
		t.Errorf("Mend of nothing: %d", at)
	}
	if s, at := Mend(b); at != 104 || s.Generation() != 0 {
		t.Errorf("Mend of what is right: %d", at)
	}
}

// TestSaveForm: a log byte by byte, as the chapter says.
func TestSaveForm(t *testing.T) { // 19.7
	s := made(t, example)
	for _, stamp := range []int{1, 2, 3, 4} {
		s.Append(api.Line{Stamp: stamp, Text: "x"})
	}
	image, _ := block.Seal(api.Head{Generation: 3, Level: 1}, []api.Line{{Stamp: 1, Text: "x"}, {Stamp: 2, Text: "x"}, {Stamp: 3, Text: "x"}})
	head := "DRGS"
	for _, n := range []uint64{64, 1000, 3, 2, 1, 500, 5, 4, 1, 1} {
		head += eight(n)
	}
	length := four(uint64(len(image)))
	tail := eight(5) + four(4)
	want := head + plainSum(head) + length + plainSum(length) + image + tail + plainSum(tail) + "\x01\x08\x01x" + plainSum("\x01\x08\x01x")
	if b := s.Save(); b != want {
		t.Errorf("Save: %x, want %x", b, want)
	}
}

// logs are some of each kind: of no line, of an open block alone, of sealed ones alone, of both, some dropped.
func logs() []*plainStore {
	dropped := appendedTo(example, 100, 200, 300, 2000, 10, 9000, 9001)
	dropped.drop(400)
	sealed := appendedTo(example, 5)
	sealed.seal()
	emptied := appendedTo(example, 5, 6, 7)
	emptied.drop(8)
	return []*plainStore{{config: example}, appendedTo(example, 7), appendedTo(example, 1, 2), appendedTo(example, 1, 2, 3), appendedTo(example, 1, 2, 3, 4), sealed, emptied, dropped}
}

func TestLoadRight(t *testing.T) { // 19.8, 19.10
	for _, p := range logs() {
		holdsRead(t, p.save())
		s, e, at := Load(p.save())
		if s == nil || e != api.OK || at != 0 {
			t.Fatalf("Load: %v, %d", e, at)
		}
		holds(t, s, p)
	}
}

// TestOneByte: each other byte at each place.
func TestOneByte(t *testing.T) { // 19.8, 19.9, 19.10
	for n, p := range logs() {
		b := p.save()
		for at := range len(b) {
			for x := range 256 {
				c := b[:at] + string([]byte{byte(x)}) + b[at+1:]
				if c == b {
					continue
				}
				s, e, place := Load(c)
				_, why, want := plainLoad(c)
				if s != nil || e != api.ErrImage || why != e || place != want || place > at {
					t.Fatalf("the log %d with %d at %d: %v, %d, want %d", n, x, at, e, place, want)
				}
				if x == int(b[at])^4 {
					holdsRead(t, c)
				}
			}
		}
	}
}

// TestCut: each beginning of a saved log; all blocks that are whole in it are there.
func TestCut(t *testing.T) { // 19.8, 19.9, 19.10
	for _, p := range logs() {
		b := p.save()
		for n := range len(b) {
			holdsRead(t, b[:n])
			s, at := Mend(b[:n])
			if n < 88 {
				if s != nil || at != 0 {
					t.Fatalf("Mend of %d bytes: %d", n, at)
				}
				continue
			}
			whole, end := 0, 88
			for _, x := range p.blocks {
				if end += 8 + len(x.image); x.sealed && end <= n {
					whole++
				}
			}
			heads := s.Heads()
			if len(heads) != whole || !slices.Equal(heads, p.heads()[:whole]) || s.Next() != p.next || s.Generation() != p.generation+1 {
				t.Fatalf("Mend of %d of %d bytes: %+v, %d, %d", n, len(b), heads, s.Next(), s.Generation())
			}
		}
	}
}

func TestLeftOver(t *testing.T) { // 19.8, 19.9
	for _, p := range logs() {
		b := p.save()
		for _, rest := range []string{"x", "\x00", "DRGS", b} {
			if s, e, at := Load(b + rest); s != nil || e != api.ErrImage || at != len(b) {
				t.Errorf("Load with %q behind: %v, %d", rest, e, at)
			}
			s, at := Mend(b + rest)
			want := p.copied()
			want.generation++
			if at != len(b) {
				t.Errorf("Mend with %q behind: %d", rest, at)
			}
			holds(t, s, want) // the tail's lines too
			holdsRead(t, b+rest)
		}
	}
}

// edges are numbers at which something may turn.
func edges() []uint64 {
	out := []uint64{}
	for _, n := range []uint64{0, 1, 2, 3, 4, 5, 6, 7, 64, 1000, 4096, 65536, api.MaxStamp, 1 << 31, 1 << 32, 1 << 59, 1 << 60, 1 << 63} {
		out = append(out, n-1, n, n+1)
	}
	return out
}

// TestHeadNumbers: each number of the head, also two of them at one time, under a sum that is right.
func TestHeadNumbers(t *testing.T) { // 19.8
	for _, p := range logs() {
		for word := range 10 {
			for _, n := range edges() {
				v := p.saved()
				v.head[word] = n
				holdsRead(t, v.written())
				v.head[6] = 1 << 60 // as many changes as may be: Next and the number may be great
				holdsRead(t, v.written())
				for _, m := range []uint64{n - 1, n, n + 1} {
					v := p.saved()
					v.head[word], v.head[6] = n, m
					holdsRead(t, v.written())
				}
			}
		}
	}
}

// TestHeadTells: what the head says of a log without blocks comes out.
func TestHeadTells(t *testing.T) { // 19.8, 19.9
	for _, c := range []struct {
		generation, next, number uint64
		right                    bool
	}{
		{0, 0, 0, true}, {9, 9, 9, true}, {9, 10, 0, false}, {9, 0, 10, false}, {1 << 60, 1 << 60, 1 << 60, true}, {1<<60 + 1, 0, 0, false}, {1 << 63, 0, 0, false}, {1 << 60, 1<<60 + 1, 0, false}, {5, 1<<64 - 1, 0, false}, {5, 0, 1<<64 - 1, false}, {1<<64 - 1, 0, 0, false},
	} {
		v := plainSaved{head: [10]uint64{64, 1000, 3, 2, 1, 500, c.generation, c.next, c.number, 0}}
		s, e, at := Load(v.written())
		if !c.right {
			if s != nil || e != api.ErrImage || at != 0 {
				t.Errorf("Load of %+v: %v, %d", c, e, at)
			}
			continue
		}
		if e != api.OK || at != 0 {
			t.Fatalf("Load of %+v: %v, %d", c, e, at)
		}
		if s.Generation() != int(c.generation) || s.Next() != int(c.next) || s.Config() != example {
			t.Errorf("Load of %+v: %d, %d", c, s.Generation(), s.Next())
		}
	}
	magic := plainSaved{head: [10]uint64{64, 1000, 3, 2, 1, 500}}.written()
	for _, other := range []string{"DRGT", "DRG1", "drgs", "\x00\x00\x00\x00"} {
		b := other + magic[4:84]
		b += plainSum(b) + magic[88:]
		if s, e, at := Load(b); s != nil || e != api.ErrImage || at != 0 {
			t.Errorf("Load of %s: %v, %d", other, e, at)
		}
		holdsRead(t, b)
	}
}

func imageOf(t *testing.T, h api.Head, lines int) string {
	t.Helper()
	image, e := block.Seal(h, slices.Repeat([]api.Line{{Stamp: 5, Text: "line"}}, lines))
	if e != nil {
		t.Fatal(e)
	}
	return image
}

// TestSealedNumbers: heads of two sealed blocks, near what they must be.
func TestSealedNumbers(t *testing.T) { // 19.8
	right := func(h api.Head) []api.Head {
		out := []api.Head{h}
		for _, change := range []int{-2, -1, 1, 2} {
			n, f, g := h, h, h
			n.Number += change
			f.First += change
			g.Generation += change
			out = append(out, n, f, g)
		}
		for _, level := range []int{0, 2} {
			l := h
			l.Level = level
			out = append(out, l)
		}
		far := h
		far.Number, far.First, far.Generation = 1<<60, 1<<60, 1<<60
		return append(out, far)
	}
	for _, ends := range [][3]uint64{{12, 12, 4}, {12, 12, 5}, {12, 13, 4}, {13, 11, 4}, {1 << 60, 1 << 60, 1 << 60}} { // generation, Next, number
		for _, one := range right(api.Head{Number: 2, First: 3, Generation: 4, Level: 1}) {
			for _, two := range right(api.Head{Number: 3, First: 7, Generation: 5, Level: 1}) {
				v := plainSaved{head: [10]uint64{64, 1000, 3, 2, 1, 500, max(ends[0], ends[1], ends[2]), ends[1], ends[2], 2}}
				v.images = []string{imageOf(t, one, 4), imageOf(t, two, 5)}
				holdsRead(t, v.written())
			}
		}
	}
	for generation := range uint64(4) { // each block's Generation below, at and above the log's
		for one := range 4 {
			v := plainSaved{head: [10]uint64{64, 1000, 3, 2, 1, 500, generation, 1, 1, 1}, images: []string{imageOf(t, api.Head{Generation: one, Level: 1}, 1)}}
			holdsRead(t, v.written())
		}
	}
}

// TestSealedOfOthers: a block that no Append seals, as it is not full, or more than full, may stand in a log.
func TestSealedOfOthers(t *testing.T) { // 19.8
	l := slices.Repeat([]api.Line{{Stamp: 1, Text: strings.Repeat("q", 3000)}, {Stamp: 900000}}, 40)
	image, _ := block.Seal(api.Head{Level: 1, Generation: 80}, l)
	v := plainSaved{head: [10]uint64{64, 1000, 3, 2, 1, 500, 80, 80, 1, 1}, images: []string{image}}
	holdsRead(t, v.written())
	if s, e, _ := Load(v.written()); e != api.OK || len(s.Heads()) != 1 {
		t.Errorf("Load: %v", e)
	}
}

// TestSealedPart: the length of an image, its sum, and what is no image, under sums that are right.
func TestSealedPart(t *testing.T) { // 19.8, 19.9
	p := appendedTo(example, 1, 2, 3, 4)
	v := p.saved()
	image := v.images[0]
	b := v.written()
	for _, length := range []uint64{0, 1, uint64(len(image)) - 1, uint64(len(image)) + 1, 1 << 16, 1<<32 - 1} {
		c := b[:88] + four(length) + plainSum(four(length)) + b[96:]
		if s, e, at := Load(c); s != nil || e != api.ErrImage || at != 88 {
			t.Errorf("Load with the length %d: %v, %d", length, e, at)
		}
		holdsRead(t, c)
	}
	for _, other := range []string{"", image[:len(image)-1], image + "x", "DRG1", imageOf(t, api.Head{Generation: 3, Level: 0}, 3), imageOf(t, api.Head{Generation: 3, Level: 2}, 3)} {
		v.images[0] = other
		if s, e, at := Load(v.written()); s != nil || e != api.ErrImage || at != 88 {
			t.Errorf("Load with the image %x: %v, %d", other, e, at)
		}
		holdsRead(t, v.written())
	}
	v.images = nil // the head says one
	holdsRead(t, v.written())
	v.images = []string{image, image}
	holdsRead(t, v.written())
}

// TestTail: generations, lengths and payloads of the open block, under sums that are right.
func TestTail(t *testing.T) { // 19.8, 19.9
	payload := func(l ...api.Line) string {
		b, _, _ := record.Encode(l)
		return b
	}
	payloads := []string{"", "\x00", "\x01", "\x01\x00\x00", "\x01\x00\x00x", "\x01\x01\x00", payload(api.Line{}, api.Line{}), payload(api.Line{}, api.Line{}, api.Line{}),
		payload(api.Line{Stamp: 1000}, api.Line{}), payload(api.Line{Stamp: 999}, api.Line{}), payload(api.Line{Text: strings.Repeat("s", 60)}), payload(api.Line{Text: strings.Repeat("s", 61)}), payload(api.Line{Text: strings.Repeat("s", 62)}), strings.Repeat("\x00", api.MaxRaw+1)}
	for _, p := range []*plainStore{{config: example}, appendedTo(example, 1, 2, 3), appendedTo(example, 1, 2, 3, 4, 5)} {
		for _, b := range payloads {
			for _, more := range []uint64{0, 1, 2, 3, 1 << 59} {
				for _, last := range []uint64{0, 1, 2, 3, 4, 5, 6, 7, 8, 1 << 59, 1 << 60, 1 << 63, 1<<64 - 1} {
					v := p.saved()
					v.payload, v.last = b, last
					v.head[6] += more // room for Next
					v.head[7] += more % 4
					holdsRead(t, v.written())
				}
			}
		}
	}
}

// TestTailRight: a tail as it must be, and at the edge of each of its conditions.
func TestTailRight(t *testing.T) { // 19.8
	sealed := imageOf(t, api.Head{Number: 1, First: 2, Generation: 6, Level: 1}, 3)
	saved := func(generation, next, last uint64, payload string, images ...string) string {
		return plainSaved{head: [10]uint64{64, 1000, 3, 2, 1, 500, generation, next, 4, uint64(len(images))}, images: images, last: last, payload: payload}.written()
	}
	two := "\x02\x0a\x02\x00\x00" // the lines {5, nothing} and {6, nothing}
	for _, c := range []struct {
		b     string
		right bool
	}{
		{saved(9, 7, 7, two, sealed), true}, {saved(9, 7, 9, two, sealed), true}, {saved(9, 7, 10, two, sealed), false}, {saved(9, 7, 6, two, sealed), false}, {saved(9, 6, 7, two, sealed), false}, {saved(9, 9, 7, two, sealed), true},
		{saved(9, 2, 1, two), true}, {saved(9, 2, 0, two), false}, {saved(9, 1, 1, two), false},
		{saved(9, 7, 7, "\x00", sealed), false}, {saved(9, 7, 0, "", sealed), true}, {saved(9, 7, 7, "", sealed), false},
		{saved(9, 5, 7, "\x01\x00\x00"), true}, {saved(9, 9, 7, "\x03\x00\x00\x00\x00\x00\x00"), false}, // three lines are a full block
	} {
		s, e, at := Load(c.b)
		if (e == api.OK) != c.right || (s != nil) != c.right || at == 0 != c.right {
			t.Errorf("Load(%x): %v, %d, want %v", c.b, e, at, c.right)
		}
		holdsRead(t, c.b)
	}
}

// endingIn0 is bytes with four more behind, such that the sum of all is 0.
func endingIn0(b string) string {
	c := ^uint32(of4(plainSum(b)))
	back := uint32(0xFFFFFFFF)
	for range 32 { // each step of the sum taken back
		if back&(1<<31) == 0 {
			back <<= 1
		} else {
			back = (back^0x82F63B78)<<1 | 1
		}
	}
	return b + four(uint64(c^back))
}

// TestSumOf0: a sum that is not there is not taken for one of noughts.
func TestSumOf0(t *testing.T) { // 19.8, 19.9
	v := plainSaved{head: [10]uint64{64, 1000, 3, 2, 1, 500, 1, 1, 0, 0}, last: 1, payload: endingIn0("\x01\x00\x05x")}
	b := v.written()
	if s, e, _ := Load(b); s == nil || e != api.OK || !strings.HasSuffix(b, "\x00\x00\x00\x00") {
		t.Fatalf("Load(%x): %v", b, e)
	}
	for cut := 1; cut <= 4; cut++ {
		if s, e, at := Load(b[:len(b)-cut]); s != nil || e != api.ErrImage || at != 88 {
			t.Errorf("Load without the last %d bytes: %v, %d", cut, e, at)
		}
		holdsRead(t, b[:len(b)-cut])
	}
}

// TestAnySaved: logs by chance, spoilt by chance under sums that are right, or cut; then they go on.
func TestAnySaved(t *testing.T) { // 19.8 to 19.10
	source := rand.New(rand.NewSource(198))
	taken := 0
	for range 2500 {
		c := configByChance(source)
		s, p := made(t, c), &plainStore{config: c}
		for range 1 + source.Intn(25) {
			step(t, source, s, p)
		}
		v := p.saved()
		for range source.Intn(3) {
			v.spoil(source)
		}
		b := v.written()
		switch source.Intn(8) {
		case 0:
			b = b[:source.Intn(len(b))]
		case 1:
			b += textByChance(source)
		case 2:
			at := source.Intn(len(b))
			b = b[:at] + string([]byte{b[at] ^ 1<<source.Intn(8)}) + b[at+1:]
		}
		holdsRead(t, b)
		if x, _, _ := Load(b); x != nil {
			taken++
			y, _, _ := plainLoad(b)
			goesOn(t, source, x, y)
		}
		if x, _ := Mend(b); x != nil {
			y, _ := plainMend(b)
			goesOn(t, source, x, y)
			follows(t, x)
		}
	}
	if taken < 500 {
		t.Errorf("%d were taken", taken)
	}
}

// spoil changes something of what is saved.
func (v *plainSaved) spoil(source *rand.Rand) {
	near := func(n *uint64) { *n += uint64(source.Intn(5) - 2) }
	switch n := len(v.images); source.Intn(6) {
	case 0:
		near(&v.head[source.Intn(10)])
	case 1:
		near(&v.last)
	case 2:
		v.payload, _, _ = record.Encode(slices.Repeat([]api.Line{{Stamp: source.Intn(30), Text: textByChance(source)}}, source.Intn(4)))
	case 3:
		if n > 0 {
			v.images[source.Intn(n)] = v.images[source.Intn(n)]
		}
	case 4:
		if n > 0 {
			v.images = slices.Delete(v.images, n-1, n)
			v.head[9] -= uint64(source.Intn(2))
		}
	case 5:
		if n > 0 {
			h, l, _ := block.Open(v.images[source.Intn(n)])
			h.Number += source.Intn(3) - 1
			h.First += source.Intn(3) - 1
			h.Generation += source.Intn(3) - 1
			if image, e := block.Seal(h, l); e == nil {
				v.images[source.Intn(n)] = image
			}
		}
	}
}

func goesOn(t *testing.T, source *rand.Rand, s *Store, p *plainStore) {
	t.Helper()
	for range source.Intn(8) {
		step(t, source, s, p)
	}
	holds(t, s, p)
}

// TestLastGenerations: from 2^59 on nothing is changed, whatever else is told; Mend goes no further than 2^60.
func TestLastGenerations(t *testing.T) { // 19.2, 19.3, 19.4, 19.9
	base := appendedTo(example, 1, 2, 3, 4)
	base.config.Blocks = 9
	for _, generation := range []int{1<<59 - 2, 1<<59 - 1, 1 << 59, 1<<59 + 1, 1<<60 - 1, 1 << 60} {
		p := base.copied()
		p.generation = generation
		b := p.save()
		holdsRead(t, b)
		holdsRead(t, b+"x")
		holdsRead(t, b[:len(b)-1])
		for what, do := range []func(s *Store, p *plainStore) (any, any){
			func(s *Store, p *plainStore) (any, any) {
				return s.Append(api.Line{Stamp: 5}), p.append(api.Line{Stamp: 5})
			},
			func(s *Store, p *plainStore) (any, any) {
				return s.Append(api.Line{Stamp: 5000}), p.append(api.Line{Stamp: 5000})
			},
			func(s *Store, p *plainStore) (any, any) {
				return s.Append(api.Line{Stamp: -1}), p.append(api.Line{Stamp: -1})
			},
			func(s *Store, p *plainStore) (any, any) { return s.Seal(), p.seal() },
			func(s *Store, p *plainStore) (any, any) { return s.Drop(math.MaxInt), p.drop(math.MaxInt) },
		} {
			s, e, _ := Load(b)
			if e != api.OK {
				t.Fatalf("Load at the generation %d: %v", generation, e)
			}
			q := p.copied()
			for range 3 {
				if got, want := do(s, q); got != want {
					t.Errorf("the call %d at the generation %d: %v, want %v", what, generation, got, want)
				}
				holds(t, s, q)
			}
		}
	}
	p := &plainStore{config: example, generation: 1 << 59}
	s, _, _ := Load(p.save())
	if e := s.Seal(); e != api.ErrNone { // named ahead of ErrFull
		t.Errorf("Seal of no line at the generation 2^59: %v", e)
	}
	p.generation = 1 << 60
	if s, _ := Mend(p.save() + "x"); s.Generation() != 1<<60 {
		t.Errorf("Mend at the generation 2^60: %d", s.Generation())
	}
	p.generation--
	if s, _ := Mend(p.save() + "x"); s.Generation() != 1<<60 {
		t.Errorf("Mend at the generation 2^60 - 1: %d", s.Generation())
	}
}

// TestLoadKeepsAway: nothing of the bytes is kept.
func TestLoadKeepsAway(t *testing.T) { // P3
	b := appendedTo(example, 1, 2, 3, 4).save()
	one, _, _ := Load(b)
	two, _ := Mend(b)
	for _, s := range []*Store{one, two} {
		image, _ := s.Image(0)
		if standsIn(image, b) || standsIn(s.Save(), b) {
			t.Error("an image is a piece of what was handed in")
		}
		for _, l := range told(s) {
			if standsIn(l.Line.Text, b) {
				t.Errorf("the line %d is a piece of what was handed in", l.Place)
			}
		}
	}
}
