package store

import (
	"fmt"
	"maps"
	"math"
	"math/rand"
	"slices"
	"strings"
	"testing"

	"dragnet/api"
	"dragnet/block"
	"dragnet/record"
)

var example = api.Config{Size: 64, Span: 1000, Count: 3, Blocks: 2, Level: 1, Part: 500}

func made(t *testing.T, c api.Config) *Store {
	t.Helper()
	s, e, n := New(c)
	if s == nil || e != api.OK || n != 0 {
		t.Fatalf("New(%+v): %v, %d", c, e, n)
	}
	return s
}

func told(s *Store) []api.Hit {
	var hits []api.Hit
	for place, l := range s.All() {
		hits = append(hits, api.Hit{Place: place, Line: l})
	}
	return hits
}

// holds holds all that a store answers against the plain one.
func holds(t *testing.T, s *Store, p *plainStore) {
	t.Helper()
	if s.Generation() != p.generation || s.Next() != p.next || s.Config() != p.config {
		t.Fatalf("generation %d, next %d, %+v, want %d, %d, %+v", s.Generation(), s.Next(), s.Config(), p.generation, p.next, p.config)
	}
	if got, want := s.Heads(), p.heads(); !slices.Equal(got, want) {
		t.Fatalf("Heads: %+v, want %+v", got, want)
	}
	if got, want := told(s), p.all(); !slices.Equal(got, want) {
		t.Fatalf("All: %.300v, want %.300v", got, want)
	}
	if got, want := s.Save(), p.save(); got != want {
		t.Fatalf("Save: %x, want %x", got, want)
	}
	numbers := []int{-1, 0, p.number - 1, p.number, p.number + 1, math.MinInt, math.MaxInt}
	var edges, parts []int
	for n, h := range p.heads() {
		if n < 10 {
			numbers = append(numbers, h.Number, h.Number+1)
			edges = append(edges, h.Min, h.Max)
			parts = append(parts, h.Min/p.config.Part, h.Max/p.config.Part)
		}
	}
	for _, number := range numbers {
		holdsBlock(t, s, p, number)
	}
	for n, edge := range append(edges, 0, math.MinInt+1, math.MaxInt-1) {
		for _, from := range []int{edge - 1, edge, edge + 1} {
			for _, to := range []int{edge, edge + 1, edges0(edges, n), math.MaxInt, math.MinInt} {
				if got, want := slices.Collect(s.Within(from, to)), p.within(from, to); !slices.Equal(got, want) {
					t.Fatalf("Within(%d, %d): %d, want %d", from, to, got, want)
				}
			}
		}
	}
	for _, part := range append(parts, -1, 0, 1, 2, math.MinInt, math.MaxInt) {
		for _, x := range []int{part, part / 2, part/2 + 1} {
			if got, want := s.Part(x), p.part(x); !slices.Equal(got, want) {
				t.Fatalf("Part(%d): %d, want %d", x, got, want)
			}
		}
	}
}

// edges0 is another edge than the n-th one, if there is one.
func edges0(edges []int, n int) int {
	if len(edges) == 0 {
		return 0
	}
	return edges[(n+1)%len(edges)]
}

func holdsBlock(t *testing.T, s *Store, p *plainStore, number int) {
	t.Helper()
	got, is := s.Lines(number)
	if want, have := p.lines(number); !slices.Equal(got, want) || is != have {
		t.Fatalf("Lines(%d): %.200v, %v, want %.200v, %v", number, got, is, want, have)
	}
	image, is := s.Image(number)
	if want, have := p.image(number); image != want || is != have {
		t.Fatalf("Image(%d): %x, %v, want %x, %v", number, image, is, want, have)
	}
}

// step does one thing by chance to both.
func step(t *testing.T, source *rand.Rand, s *Store, p *plainStore) {
	t.Helper()
	switch source.Intn(12) {
	case 0:
		if got, want := s.Seal(), p.seal(); got != want {
			t.Fatalf("Seal: %v, want %v", got, want)
		}
	case 1:
		before := source.Intn(1 << source.Intn(14))
		if source.Intn(6) == 0 {
			before = math.MaxInt
		}
		if got, want := s.Drop(before), p.drop(before); got != want {
			t.Fatalf("Drop(%d): %d, want %d", before, got, want)
		}
	default:
		l := lineByChance(source)
		if got, want := s.Append(l), p.append(l); got != want {
			t.Fatalf("Append(%.100v): %v, want %v", l, got, want)
		}
	}
}

func TestNew(t *testing.T) { // 19.1
	right := api.Config{Size: 1, Span: 1, Count: 1, Blocks: 1, Level: 0, Part: 1}
	most := api.Config{Size: 65536, Span: api.MaxStamp, Count: 65536, Blocks: 4096, Level: 2, Part: api.MaxStamp}
	fields := []func(c *api.Config) *int{
		func(c *api.Config) *int { return &c.Size }, func(c *api.Config) *int { return &c.Span }, func(c *api.Config) *int { return &c.Count },
		func(c *api.Config) *int { return &c.Blocks }, func(c *api.Config) *int { return &c.Level }, func(c *api.Config) *int { return &c.Part },
	}
	for _, c := range []api.Config{right, most, example} {
		s := made(t, c)
		if s.Config() != c {
			t.Errorf("Config: %+v, want %+v", s.Config(), c)
		}
		holds(t, s, &plainStore{config: c})
	}
	refused := func(c api.Config, number int) {
		t.Helper()
		if s, e, n := New(c); s != nil || e != api.ErrConfig || n != number {
			t.Errorf("New(%+v): %v, %d, want %d", c, e, n, number)
		}
	}
	for n, field := range fields {
		for _, base := range []api.Config{right, most} {
			for _, beyond := range []int{*field(&right) - 1, *field(&most) + 1, math.MinInt, math.MaxInt} {
				c := base
				*field(&c) = beyond
				refused(c, n+1)
				for _, later := range fields[n+1:] { // what is named first is told
					*later(&c) = -1
				}
				refused(c, n+1)
			}
		}
	}
	refused(api.Config{}, 1)
}

func TestAppendExample(t *testing.T) { // 19.2, 19.5, 19.6: examples 1 and 3
	s := made(t, example)
	appended := func(stamp int, text string, want api.Errno) {
		t.Helper()
		if e := s.Append(api.Line{Stamp: stamp, Text: text}); e != want {
			t.Errorf("Append(%d, %q): %v, want %v", stamp, text, e, want)
		}
	}
	appended(100, "a", api.OK)
	appended(600, "b", api.OK)
	payload, _, _ := record.Encode([]api.Line{{Stamp: 100, Text: "a"}, {Stamp: 600, Text: "b"}})
	open := api.Head{Count: 2, Min: 100, Max: 600, Generation: 2, Level: 1, Raw: len(payload)}
	if h := s.Heads(); s.Generation() != 2 || s.Next() != 2 || !slices.Equal(h, []api.Head{open}) {
		t.Errorf("behind two lines: %d, %d, %+v", s.Generation(), s.Next(), h)
	}
	for part, want := range [][]int{{0}, {0}, nil} {
		if got := s.Part(part); !slices.Equal(got, want) {
			t.Errorf("Part(%d): %d", part, got)
		}
	}
	for _, c := range []struct {
		from, to int
		want     []int
	}{{601, 9999, nil}, {600, 601, []int{0}}, {0, 100, nil}, {0, 101, []int{0}}, {600, 100, nil}, {600, 101, []int{0}}} {
		if got := slices.Collect(s.Within(c.from, c.to)); !slices.Equal(got, c.want) {
			t.Errorf("Within(%d, %d): %d", c.from, c.to, got)
		}
	}
	if image, is := s.Image(0); image != "" || is {
		t.Errorf("the image of the open block: %x, %v", image, is)
	}
	appended(50, "c", api.OK)
	appended(1, "\n", api.ErrLine)
	appended(-1, "x", api.ErrStamp)
	image, is := s.Image(0)
	want, l, e := block.Open(image)
	if h := s.Heads(); !is || e != nil || s.Generation() != 4 || s.Next() != 3 || want.Generation != 3 || want.Min != 50 || len(l) != 3 || !slices.Equal(h, []api.Head{want}) {
		t.Errorf("behind three lines: %d, %d, %+v, want %+v", s.Generation(), s.Next(), h, want)
	}
}

func TestSealExample(t *testing.T) { // 19.3, 19.4: example 2
	s := made(t, example)
	for _, l := range []api.Line{{Stamp: 100, Text: "a"}, {Stamp: 600, Text: "b"}, {Stamp: 50, Text: "c"}} {
		s.Append(l)
	}
	if e := s.Seal(); e != api.ErrNone || s.Generation() != 4 {
		t.Errorf("Seal of no line: %v", e)
	}
	if e := s.Append(api.Line{Stamp: 5000, Text: "d"}); e != api.OK {
		t.Errorf("Append: %v", e)
	}
	if e := s.Seal(); e != api.OK || s.Generation() != 6 {
		t.Errorf("Seal: %v, %d", e, s.Generation())
	}
	if h := s.Heads(); len(h) != 2 || h[1].Generation != 5 {
		t.Errorf("Heads: %+v", h)
	}
	for n, want := range []api.Errno{api.OK, api.OK, api.ErrFull} {
		if e := s.Append(api.Line{Stamp: 7 + n, Text: "e"}); e != want {
			t.Errorf("Append(%d): %v", 7+n, e)
		}
	}
	if e := s.Seal(); e != api.ErrFull || s.Generation() != 8 || s.Next() != 6 {
		t.Errorf("Seal without room: %v, %d, %d", e, s.Generation(), s.Next())
	}
	if s.Drop(600) != 0 || s.Generation() != 8 || s.Drop(601) != 1 || s.Generation() != 9 {
		t.Errorf("Drop: %d", s.Generation())
	}
	if h := s.Heads(); len(h) != 2 || h[0].Number != 1 || h[1].Number != 2 || h[0].First != 3 || h[1].First != 4 {
		t.Errorf("Heads: %+v", h)
	}
	if l, is := s.Lines(0); l != nil || is {
		t.Errorf("what was dropped: %v", l)
	}
	if e := s.Seal(); e != api.OK || s.Generation() != 10 {
		t.Errorf("Seal: %v", e)
	}
	if l, is := s.Lines(3); l != nil || is { // the open block, without a line
		t.Errorf("Lines(3): %v", l)
	}
}

func TestAppendLine(t *testing.T) { // 19.2, DOC's Limits
	longest := strings.Repeat("x", 8192)
	for _, c := range []struct {
		l api.Line
		e api.Errno
	}{
		{api.Line{}, api.OK}, {api.Line{Stamp: api.MaxStamp, Text: longest}, api.OK}, {api.Line{Text: "\x00\r\x0b\xff"}, api.OK},
		{api.Line{Text: longest + "x"}, api.ErrLine}, {api.Line{Text: "a\n"}, api.ErrLine}, {api.Line{Text: "\na"}, api.ErrLine},
		{api.Line{Stamp: -1}, api.ErrStamp}, {api.Line{Stamp: api.MaxStamp + 1}, api.ErrStamp}, {api.Line{Stamp: math.MinInt}, api.ErrStamp}, {api.Line{Stamp: math.MaxInt}, api.ErrStamp},
		{api.Line{Stamp: -1, Text: "\n"}, api.ErrLine},
	} {
		s, p := made(t, api.Config{Size: 65536, Span: api.MaxStamp, Count: 10, Blocks: 1, Level: 1, Part: 7}), &plainStore{config: api.Config{Size: 65536, Span: api.MaxStamp, Count: 10, Blocks: 1, Level: 1, Part: 7}}
		for range 2 {
			if e := s.Append(c.l); e != c.e || p.append(c.l) != c.e {
				t.Errorf("Append(%.30v): %v, want %v", c.l, e, c.e)
			}
			holds(t, s, p)
		}
	}
}

// TestLineFirst: a line that may not be is told also where there is no room.
func TestLineFirst(t *testing.T) { // 19.2, P2
	s := made(t, api.Config{Size: 1, Span: 1, Count: 1, Blocks: 1, Part: 1})
	for n, want := range []api.Errno{api.OK, api.ErrFull} {
		if e := s.Append(api.Line{}); e != want {
			t.Errorf("Append, %d: %v", n, e)
		}
	}
	if e := s.Append(api.Line{Stamp: -1}); e != api.ErrStamp {
		t.Errorf("Append of no stamp: %v", e)
	}
	if e := s.Append(api.Line{Stamp: -1, Text: "\n"}); e != api.ErrLine {
		t.Errorf("Append of no line: %v", e)
	}
	if e := s.Seal(); e != api.ErrNone {
		t.Errorf("Seal: %v", e)
	}
}

func TestFullSpan(t *testing.T) { // 19.2
	for _, stamps := range [][]int{{500, 1499, 1500}, {500, 1499, 499}, {500, 500, 1500}, {5000, 4001, 4000}, {0, 1000}, {api.MaxStamp, api.MaxStamp - 999, api.MaxStamp - 1000}, {0, api.MaxStamp}} {
		s, p := made(t, api.Config{Size: 65536, Span: 1000, Count: 65536, Blocks: 3, Part: 1}), &plainStore{config: api.Config{Size: 65536, Span: 1000, Count: 65536, Blocks: 3, Part: 1}}
		for n, stamp := range stamps {
			if h := s.Heads(); len(h) > 0 && h[0].Packed > 0 {
				t.Errorf("%d: sealed ahead of %d", stamps, n)
			}
			s.Append(api.Line{Stamp: stamp})
			p.append(api.Line{Stamp: stamp})
		}
		if _, is := s.Image(0); !is {
			t.Errorf("%d: not sealed", stamps)
		}
		holds(t, s, p)
	}
}

// TestFullSize: each size of a payload, as lines come, those where the numbers in it get a byte more too.
func TestFullSize(t *testing.T) { // 19.2, 19.5
	for _, text := range []string{"", "ab", strings.Repeat("x", 127), strings.Repeat("x", 128), strings.Repeat("y", 8192)} {
		for _, size := range []int{1, 2, 3, 4, 100, 129, 130, 131, 259, 260, 261, 262, 263, 8191, 8200, 65534, 65535, 65536} {
			s := made(t, api.Config{Size: size, Span: api.MaxStamp, Count: 65536, Blocks: 1, Part: 1})
			payload := record.New()
			for payload.Len() == 0 || payload.Size() < size {
				l := api.Line{Stamp: payload.Len() * 97 % 300, Text: text}
				if e := s.Append(l); e != api.OK {
					t.Fatalf("Append of the line %d: %v", payload.Len(), e)
				}
				payload.Add(l)
				if h := s.Heads()[0]; h.Raw != payload.Size() || h.Count != payload.Len() || (h.Packed > 0) != (h.Raw >= size) {
					t.Fatalf("of the size %d: %+v, want %d bytes", size, h, payload.Size())
				}
			}
		}
	}
}

// TestNoRoom: as many blocks are sealed as may be; the open one grows up to just below full.
func TestNoRoom(t *testing.T) { // 19.2, 19.3
	for _, c := range []api.Config{
		{Size: 20, Span: api.MaxStamp, Count: 65536, Blocks: 1, Part: 1},
		{Size: 65536, Span: 10, Count: 65536, Blocks: 1, Part: 1},
		{Size: 65536, Span: api.MaxStamp, Count: 3, Blocks: 1, Part: 1},
	} {
		s, p := made(t, c), &plainStore{config: c}
		refused := 0
		for n := range 40 {
			l := api.Line{Stamp: n * 3 % 16, Text: strings.Repeat("z", n%4)}
			e := s.Append(l)
			if e != p.append(l) {
				t.Fatalf("%+v: Append(%v): %v", c, l, e)
			}
			if e == api.ErrFull {
				refused++
			}
			holds(t, s, p)
			if n%10 == 9 {
				if e := s.Seal(); e != p.seal() || e != api.ErrFull {
					t.Fatalf("%+v: Seal: %v", c, e)
				}
			}
		}
		if refused == 0 {
			t.Errorf("%+v: nothing was refused", c)
		}
		if s.Drop(math.MaxInt) != 1 || p.drop(math.MaxInt) != 1 || s.Seal() != api.OK || p.seal() != api.OK {
			t.Errorf("%+v: no room behind Drop", c)
		}
		holds(t, s, p)
	}
}

func TestDrop(t *testing.T) { // 19.4
	c := api.Config{Size: 65536, Span: api.MaxStamp, Count: 2, Blocks: 9, Part: 10}
	s, p := made(t, c), &plainStore{config: c}
	dropped := func(before, want int) {
		t.Helper()
		if n := s.Drop(before); n != want || p.drop(before) != want {
			t.Errorf("Drop(%d): %d, want %d", before, n, want)
		}
		holds(t, s, p)
	}
	dropped(math.MaxInt, 0)
	for _, stamp := range []int{1, 5, 9, 2, 30, 31, 3, 4, 0} { // blocks with the greatest stamps 5, 9, 31, 4, and an open one
		s.Append(api.Line{Stamp: stamp})
		p.append(api.Line{Stamp: stamp})
	}
	generation := s.Generation()
	dropped(5, 0)
	dropped(math.MinInt, 0)
	if s.Generation() != generation {
		t.Errorf("the generation went on by nothing: %d", s.Generation())
	}
	dropped(31, 2) // the one behind these is not all ahead; the last one stays behind it
	if s.Generation() != generation+1 || s.Next() != 9 {
		t.Errorf("behind Drop: %d, %d", s.Generation(), s.Next())
	}
	dropped(31, 0)
	dropped(math.MaxInt, 2)
	dropped(math.MaxInt, 0) // the open one is never forgotten
	if h := s.Heads(); len(h) != 1 || h[0].Number != 4 || h[0].First != 8 {
		t.Errorf("Heads: %+v", h)
	}
}

func TestAnySteps(t *testing.T) { // 19.2 to 19.7, 19.10
	source := rand.New(rand.NewSource(19))
	for range 300 {
		c := configByChance(source)
		s, p := made(t, c), &plainStore{config: c}
		for range 1 + source.Intn(40) {
			step(t, source, s, p)
			if source.Intn(4) == 0 {
				holds(t, s, p)
			}
		}
		holds(t, s, p)
		follows(t, s)
	}
}

// follows holds what 19.10 says of any store.
func follows(t *testing.T, s *Store) {
	t.Helper()
	var lines []api.Hit
	for _, h := range s.Heads() {
		l, is := s.Lines(h.Number)
		if !is || len(l) != h.Count {
			t.Fatalf("%+v has %d lines", h, len(l))
		}
		for n := range l {
			lines = append(lines, api.Hit{Place: h.First + n, Line: l[n]})
		}
	}
	if got := told(s); !slices.Equal(got, lines) {
		t.Fatalf("All: %v, Lines: %v", got, lines)
	}
	b := s.Save()
	x, e, at := Load(b)
	if x == nil || e != api.OK || at != 0 || x.Save() != b {
		t.Fatalf("Load of Save: %v, %d", e, at)
	}
}

// TestManyBlocks: as many as there may be, each found by its number.
func TestManyBlocks(t *testing.T) { // 19.2, 19.5, DOC's Limits
	s := made(t, api.Config{Size: 1, Span: 1, Count: 1, Blocks: api.MaxBlocks, Level: 2, Part: 10})
	for n := range api.MaxBlocks {
		if e := s.Append(api.Line{Stamp: n, Text: fmt.Sprint("line ", n)}); e != api.OK {
			t.Fatalf("Append of the line %d: %v", n, e)
		}
	}
	if e := s.Append(api.Line{}); e != api.ErrFull || s.Generation() != 2*api.MaxBlocks {
		t.Fatalf("one more: %v, %d", e, s.Generation())
	}
	for range 2 {
		for _, n := range []int{100, 101, 1000, 4095} {
			if l, is := s.Lines(n); !is || !slices.Equal(l, []api.Line{{Stamp: n, Text: fmt.Sprint("line ", n)}}) {
				t.Errorf("Lines(%d): %v, %v", n, l, is)
			}
		}
		if got := slices.Collect(s.Within(100, 103)); !slices.Equal(got, []int{100, 101, 102}) {
			t.Errorf("Within: %d", got)
		}
		if got := s.Part(10); !slices.Equal(got, []int{100, 101, 102, 103, 104, 105, 106, 107, 108, 109}) {
			t.Errorf("Part: %d", got)
		}
		s.Drop(100)
	}
	x, e, _ := Load(s.Save())
	if e != api.OK || x.Save() != s.Save() || len(x.Heads()) != api.MaxBlocks-100 {
		t.Errorf("Load of Save: %v", e)
	}
}

func TestIterators(t *testing.T) { // 19.6, P3
	c := api.Config{Size: 65536, Span: api.MaxStamp, Count: 2, Blocks: 4, Part: 10}
	s, p := made(t, c), &plainStore{config: c}
	all, within := s.All(), s.Within(0, 100)
	for n := range 5 {
		s.Append(api.Line{Stamp: n, Text: fmt.Sprint(n)})
		p.append(api.Line{Stamp: n, Text: fmt.Sprint(n)})
	}
	for range 2 { // gone over again, what there is when the range begins
		if got := slices.Collect(within); !slices.Equal(got, []int{0, 1, 2}) {
			t.Errorf("Within: %d", got)
		}
		if got := maps.Collect(all); len(got) != 5 || got[4].Text != "4" {
			t.Errorf("All: %v", got)
		}
	}
	for place := range all { // left early: in a block, and behind one
		if place == 2 || place == 4 {
			break
		}
	}
	for number := range within {
		if number == 1 {
			break
		}
	}
	pairs := 0
	for range all { // within itself
		for range within {
			pairs++
		}
	}
	if pairs != 15 {
		t.Errorf("%d pairs of 5 lines and 3 blocks", pairs)
	}
	before := p.all()
	var got []api.Hit
	for place, l := range all { // with calls that do not show in it
		got = append(got, api.Hit{Place: place, Line: l})
		s.Drop(math.MaxInt)
		for range 3 {
			s.Append(api.Line{Stamp: 50, Text: "more"})
		}
		s.Seal()
	}
	if !slices.Equal(got, before) {
		t.Errorf("All: %v, want %v", got, before)
	}
	numbers, last := slices.Collect(within), s.Next()
	at := 0
	for number := range within {
		if number != numbers[at] {
			t.Errorf("Within: the %d-th is %d, want %d", at, number, numbers[at])
		}
		at++
		s.Drop(math.MaxInt)
		s.Append(api.Line{Stamp: 1})
		s.Append(api.Line{Stamp: 1})
	}
	if at != len(numbers) || s.Next() == last {
		t.Errorf("Within went over %d of %d", at, len(numbers))
	}
}

// TestRefusedLineShowsNowhere: an iterator that has begun, and the block, when a line was refused and another one comes.
func TestRefusedLineShowsNowhere(t *testing.T) { // 19.2, P2, P3
	s := made(t, api.Config{Size: 65536, Span: 100, Count: 65536, Blocks: 1, Part: 10})
	s.Append(api.Line{Stamp: 0})
	s.Append(api.Line{Stamp: 500})
	for n := range 10 {
		s.Append(api.Line{Stamp: n, Text: fmt.Sprint(n)})
		list, _ := s.Lines(1)
		if e := s.Append(api.Line{Stamp: 900, Text: "far"}); e != api.ErrFull {
			t.Fatalf("Append: %v", e)
		}
		again, _ := s.Lines(1)
		if !slices.Equal(list, again) || len(list) != n+1 || again[n].Text != fmt.Sprint(n) {
			t.Fatalf("behind a refused line: %v, then %v", list, again)
		}
	}
}

func TestAnswersAreNew(t *testing.T) { // P3
	s := made(t, api.Config{Size: 65536, Span: api.MaxStamp, Count: 3, Blocks: 4, Part: 1})
	text := strings.Repeat("long ", 20)
	for n := range 5 {
		s.Append(api.Line{Stamp: n, Text: text[:40+n]})
	}
	for _, l := range told(s) {
		if standsIn(l.Line.Text, text) {
			t.Errorf("what was handed in is kept: the line %d", l.Place)
		}
	}
	before := s.Save()
	for number := range 2 {
		one, _ := s.Lines(number)
		two, _ := s.Lines(number)
		clear(one[:cap(one)])
		one = append(one[:1], api.Line{Text: "\n"})
		if slices.Equal(one, two) || two[1].Stamp != 3*number+1 {
			t.Errorf("two lists of the block %d share their memory: %v", number, two)
		}
	}
	heads, part := s.Heads(), s.Part(1)
	clear(heads[:cap(heads)])
	part[0] = 7
	if s.Save() != before || s.Heads()[1].First != 3 || !slices.Equal(s.Part(1), []int{0}) {
		t.Error("who has an answer can write into the store")
	}
}

// TestStoresApart: what is done to one shows in it alone.
func TestStoresApart(t *testing.T) { // 19.1, P4
	a, b := made(t, example), made(t, example)
	a.Append(api.Line{Text: "a"})
	if b.Next() != 0 || b.Generation() != 0 || len(b.Heads()) != 0 {
		t.Errorf("the other one: %+v", b.Heads())
	}
	x, _, _ := Load(a.Save())
	y, _, _ := Load(a.Save())
	x.Append(api.Line{Text: "x"})
	y.Append(api.Line{Text: "y"})
	if got := told(y); len(got) != 2 || got[1].Line.Text != "y" || a.Next() != 1 {
		t.Errorf("two of one saved log: %v", got)
	}
}
