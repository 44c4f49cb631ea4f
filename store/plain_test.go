package store

import (
	"encoding/binary"
	"hash/crc32"
	"math/rand"
	"slices"
	"strings"
	"unsafe"

	"dragnet/api"
	"dragnet/block"
	"dragnet/record"
)

// The plain log here does what the chapter's words say, one by one: it keeps all lines as they are, and works each answer out of them anew. What the chapter asks of record and block it asks of these; numbers and sums are the library's. The calls are held against it.

type plainBlock struct {
	number, first, generation int
	lines                     []api.Line
	sealed                    bool
	image                     string
}

type plainStore struct {
	config     api.Config
	generation int
	next       int
	number     int          // of the open block
	blocks     []plainBlock // those that have lines
}

func plainWrong(c api.Config) int {
	switch {
	case c.Size < 1 || c.Size > 65536:
		return 1
	case c.Span < 1 || c.Span > 253402300799999:
		return 2
	case c.Count < 1 || c.Count > 65536:
		return 3
	case c.Blocks < 1 || c.Blocks > 4096:
		return 4
	case c.Level < 0 || c.Level > 2:
		return 5
	case c.Part < 1 || c.Part > 253402300799999:
		return 6
	}
	return 0
}

func (p *plainStore) copied() *plainStore {
	c := *p
	c.blocks = slices.Clone(p.blocks)
	for n := range c.blocks {
		c.blocks[n].lines = slices.Clone(c.blocks[n].lines)
	}
	return &c
}

func (p *plainStore) sealedOnes() int {
	n := 0
	for _, b := range p.blocks {
		if b.sealed {
			n++
		}
	}
	return n
}

// openLines is those of the open block.
func (p *plainStore) openLines() []api.Line {
	if n := len(p.blocks); n > 0 && !p.blocks[n-1].sealed {
		return p.blocks[n-1].lines
	}
	return nil
}

func stampsOf(l []api.Line) []int {
	var stamps []int
	for _, line := range l {
		stamps = append(stamps, line.Stamp)
	}
	return stamps
}

func (p *plainStore) isFull(l []api.Line) bool {
	payload, _, _ := record.Encode(l)
	return len(payload) >= p.config.Size || slices.Max(stampsOf(l))-slices.Min(stampsOf(l)) >= p.config.Span || len(l) >= p.config.Count
}

func (p *plainStore) append(l api.Line) api.Errno {
	with := append(slices.Clone(p.openLines()), l)
	switch {
	case len(l.Text) > 8192 || strings.Contains(l.Text, "\n"):
		return api.ErrLine
	case l.Stamp < 0 || l.Stamp > 253402300799999:
		return api.ErrStamp
	case p.generation >= 576460752303423488:
		return api.ErrFull
	case p.isFull(with) && p.sealedOnes() == p.config.Blocks:
		return api.ErrFull
	}
	if len(with) == 1 {
		p.blocks = append(p.blocks, plainBlock{number: p.number, first: p.next})
	}
	p.generation++
	p.next++
	b := &p.blocks[len(p.blocks)-1]
	b.lines, b.generation = with, p.generation
	if p.isFull(with) {
		p.shut()
	}
	return api.OK
}

func (p *plainStore) shut() {
	b := &p.blocks[len(p.blocks)-1]
	b.sealed = true
	b.image, _ = block.Seal(api.Head{Number: b.number, First: b.first, Generation: b.generation, Level: p.config.Level}, b.lines)
	p.number++
	p.generation++
}

func (p *plainStore) seal() api.Errno {
	switch {
	case len(p.openLines()) == 0:
		return api.ErrNone
	case p.generation >= 576460752303423488 || p.sealedOnes() == p.config.Blocks:
		return api.ErrFull
	}
	p.shut()
	return api.OK
}

func (p *plainStore) drop(before int) int {
	n := 0
	for p.generation < 576460752303423488 && len(p.blocks) > 0 && p.blocks[0].sealed && slices.Max(stampsOf(p.blocks[0].lines)) < before {
		p.blocks = p.blocks[1:]
		n++
	}
	if n > 0 {
		p.generation++
	}
	return n
}

func (p *plainStore) heads() []api.Head {
	var heads []api.Head
	for _, b := range p.blocks {
		payload, _, _ := record.Encode(b.lines)
		h := api.Head{Number: b.number, First: b.first, Count: len(b.lines), Min: slices.Min(stampsOf(b.lines)), Max: slices.Max(stampsOf(b.lines)), Generation: b.generation, Level: p.config.Level, Raw: len(payload)}
		if b.sealed {
			h.Packed = len(b.image) - 73 - 4
		}
		heads = append(heads, h)
	}
	return heads
}

func (p *plainStore) lines(number int) ([]api.Line, bool) {
	for _, b := range p.blocks {
		if b.number == number {
			return b.lines, true
		}
	}
	return nil, false
}

func (p *plainStore) image(number int) (string, bool) {
	for _, b := range p.blocks {
		if b.number == number && b.sealed {
			return b.image, true
		}
	}
	return "", false
}

func (p *plainStore) within(from, to int) []int {
	var numbers []int
	for _, b := range p.blocks {
		if slices.Max(stampsOf(b.lines)) >= from && slices.Min(stampsOf(b.lines)) < to {
			numbers = append(numbers, b.number)
		}
	}
	return numbers
}

func (p *plainStore) part(part int) []int {
	var numbers []int
	for _, b := range p.blocks {
		if slices.ContainsFunc(b.lines, func(l api.Line) bool { return l.Stamp/p.config.Part == part }) {
			numbers = append(numbers, b.number)
		}
	}
	return numbers
}

// all is the lines with their places.
func (p *plainStore) all() []api.Hit {
	var hits []api.Hit
	for _, b := range p.blocks {
		for n, l := range b.lines {
			hits = append(hits, api.Hit{Place: b.first + n, Line: l})
		}
	}
	return hits
}

func plainSum(b string) string {
	return string(binary.LittleEndian.AppendUint32(nil, crc32.Checksum([]byte(b), crc32.MakeTable(crc32.Castagnoli))))
}

func eight(n uint64) string { return string(binary.LittleEndian.AppendUint64(nil, n)) }

func four(n uint64) string { return string(binary.LittleEndian.AppendUint32(nil, uint32(n))) }

// plainSaved is a saved log of any numbers and any bytes, to be written under sums that are right.
type plainSaved struct {
	head    [10]uint64
	images  []string
	last    uint64 // the open block's Generation
	payload string
}

func (v plainSaved) written() string {
	b := "DRGS"
	for _, n := range v.head {
		b += eight(n)
	}
	b += plainSum(b)
	for _, image := range v.images {
		b += four(uint64(len(image))) + plainSum(four(uint64(len(image)))) + image
	}
	tail := eight(v.last) + four(uint64(len(v.payload)))
	b += tail + plainSum(tail)
	if v.payload != "" {
		b += v.payload + plainSum(v.payload)
	}
	return b
}

func (p *plainStore) saved() plainSaved {
	c := p.config
	v := plainSaved{head: [10]uint64{uint64(c.Size), uint64(c.Span), uint64(c.Count), uint64(c.Blocks), uint64(c.Level), uint64(c.Part), uint64(p.generation), uint64(p.next), uint64(p.number), uint64(p.sealedOnes())}}
	for _, b := range p.blocks {
		if b.sealed {
			v.images = append(v.images, b.image)
		} else {
			v.last = uint64(b.generation)
			v.payload, _, _ = record.Encode(b.lines)
		}
	}
	return v
}

func (p *plainStore) save() string { return p.saved().written() }

// plainWrongPart is what a reader throws.
type plainWrongPart struct{}

func asks(is bool) {
	if !is {
		panic(plainWrongPart{})
	}
}

type plainReader struct {
	b  string
	at int
}

func (r *plainReader) take(n uint64) string {
	asks(n <= uint64(len(r.b)-r.at))
	r.at += int(n)
	return r.b[r.at-int(n) : r.at]
}

// summed takes bytes behind which their sum stands.
func (r *plainReader) summed(n uint64) string {
	s := r.take(n)
	asks(r.take(4) == plainSum(s))
	return s
}

func of8(b string) uint64 { return binary.LittleEndian.Uint64([]byte(b)) }

func of4(b string) uint64 { return uint64(binary.LittleEndian.Uint32([]byte(b))) }

// head reads it: the log, still without blocks, and how many sealed ones follow.
func (r *plainReader) head() (*plainStore, int) {
	b := r.summed(84)
	asks(b[:4] == "DRGS")
	var n [10]int
	for i := range n {
		word := of8(b[4+8*i:])
		asks(word < 1<<62) // no number may be above that
		n[i] = int(word)
	}
	p := &plainStore{config: api.Config{Size: n[0], Span: n[1], Count: n[2], Blocks: n[3], Level: n[4], Part: n[5]}, generation: n[6], next: n[7], number: n[8]}
	asks(plainWrong(p.config) == 0)
	asks(n[6] <= 1<<60 && n[7] <= n[6] && n[8] <= n[6] && n[9] <= n[3])
	return p, n[9]
}

func (r *plainReader) sealed(p *plainStore) plainBlock {
	image := r.take(of4(r.summed(4)))
	h, l, e := block.Open(image)
	asks(e == nil)
	asks(h.Level == p.config.Level && h.Number < p.number)
	if n := len(p.blocks); n > 0 {
		ahead := p.blocks[n-1]
		asks(h.Number > ahead.number && h.Generation > ahead.generation && h.First >= ahead.first+len(ahead.lines))
	}
	asks(h.First+h.Count <= p.next && h.Generation <= p.generation)
	return plainBlock{number: h.Number, first: h.First, generation: h.Generation, lines: l, sealed: true, image: image}
}

func (r *plainReader) tail(p *plainStore) []plainBlock {
	b := r.summed(12)
	generation, length := of8(b[:8]), of4(b[8:])
	if length == 0 {
		asks(generation == 0)
		return nil
	}
	l, e, _ := record.Decode(r.summed(length))
	asks(e == api.OK && len(l) > 0)
	end, last := 0, 0
	if n := len(p.blocks); n > 0 {
		end, last = p.blocks[n-1].first+len(p.blocks[n-1].lines), p.blocks[n-1].generation
	}
	asks(p.next-len(l) >= end && generation <= uint64(p.generation) && generation > uint64(last))
	asks(!p.isFull(l))
	return []plainBlock{{number: p.number, first: p.next - len(l), generation: int(generation), lines: l}}
}

// plainRead reads as much as is right: the log, the place behind that, and whether it is all.
func plainRead(b string) (p *plainStore, at int, all bool) {
	r := &plainReader{b: b}
	defer func() {
		if _, is := recover().(plainWrongPart); is {
			all = false
		}
	}()
	q, sealed := r.head()
	p, at = q, r.at
	for range sealed {
		x := r.sealed(p)
		p.blocks, at = append(p.blocks, x), r.at
	}
	p.blocks = append(p.blocks, r.tail(p)...)
	return p, r.at, r.at == len(b)
}

func plainLoad(b string) (*plainStore, api.Errno, int) {
	p, at, all := plainRead(b)
	if !all {
		return nil, api.ErrImage, at
	}
	return p, api.OK, 0
}

func plainMend(b string) (*plainStore, int) {
	p, at, all := plainRead(b)
	if p != nil && !all && p.generation < 1<<60 {
		p.generation++
	}
	return p, at
}

// standsIn tells whether a text's memory is a piece of another one's.
func standsIn(s, of string) bool {
	if s == "" || of == "" {
		return false
	}
	at, from := uintptr(unsafe.Pointer(unsafe.StringData(s))), uintptr(unsafe.Pointer(unsafe.StringData(of)))
	return from <= at && at < from+uintptr(len(of))
}

// configByChance has limits that a few lines come to.
func configByChance(source *rand.Rand) api.Config {
	either := func(few, most int) int {
		if source.Intn(3) == 0 {
			return most
		}
		return 1 + source.Intn(few)
	}
	return api.Config{Size: either(60, 65536), Span: either(1000, api.MaxStamp), Count: either(6, 65536), Blocks: either(5, 4096), Level: source.Intn(3), Part: either(300, api.MaxStamp)}
}

func stampByChance(source *rand.Rand) int {
	switch source.Intn(6) {
	case 0:
		return source.Intn(3)
	case 1:
		return api.MaxStamp - source.Intn(3)
	}
	return source.Intn(1 << (1 + source.Intn(12)))
}

func textByChance(source *rand.Rand) string {
	words := []string{"GET ", "/a", "/b ", "status=500", "status=200 ", "error: ", "\x00", "\xff\r"}
	s := ""
	for range source.Intn(5) {
		s += words[source.Intn(len(words))]
	}
	return s
}

func lineByChance(source *rand.Rand) api.Line {
	l := api.Line{Stamp: stampByChance(source), Text: textByChance(source)}
	switch source.Intn(40) {
	case 0:
		l.Text += "\n"
	case 1:
		l.Stamp = -1 - l.Stamp
	case 2:
		l.Stamp += api.MaxStamp + 1
	case 3:
		l.Text = strings.Repeat("l", 8192+source.Intn(2))
	}
	return l
}
