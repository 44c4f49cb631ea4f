package wrap

import (
	"dragnet/api"
	"dragnet/lz4"
	"dragnet/sums"
)

// The things that frames are made of. A block is one with its sum: nothing of it shows ahead of that.
const (
	frameMagic = iota
	frameFlags
	frameSize
	frameLength
	frameCheck
	blockNumber
	blockBytes
	frameSum
	passedNumber
	passedBytes
)

// reader looks at one thing behind the other. The faults that it tells have their place from the thing's beginning on.
type reader struct {
	next int   // which thing comes
	need int64 // how many bytes it has: of one that is passed over more than an int may hold
	room int   // so many bytes may still be told
	frame
}

// frame is what is known of the one that is being read.
type frame struct {
	flags  byte
	head   []byte // from the flags on, until it is checked
	lid    int
	left   uint64     // so many bytes are still to come, if the length is told
	sum    *sums.Hash // of its text, if that has one
	before window     // of its text, if its blocks are not alone
	count  int        // bytes of the block that comes
	plain  bool       // it is stored
}

func begin(most int) reader {
	r := reader{room: most}
	r.beginFrame()
	return r
}

func (r *reader) beginFrame() {
	r.frame = frame{}
	r.expect(frameMagic, len(magic))
}

func (r *reader) expect(thing, need int) { r.next, r.need = thing, int64(need) }

// look takes the thing that comes, whole; of a block it tells the text.
func (r *reader) look(thing string) (string, error) {
	switch r.next {
	case frameMagic:
		return "", r.lookMagic(thing)
	case frameFlags:
		return "", r.lookFlags(thing[0])
	case frameSize:
		return "", r.lookSize(thing[0])
	case frameLength:
		r.lookLength(thing)
	case frameCheck:
		return "", r.lookCheck(thing[0])
	case blockNumber:
		return "", r.lookNumber(uint32(asNumber(thing)))
	case blockBytes:
		return r.lookBlock(thing[:r.count], thing[r.count:])
	case frameSum:
		return "", r.lookSum(thing)
	case passedNumber:
		r.next, r.need = passedBytes, int64(asNumber(thing))
	case passedBytes:
		r.pass(len(thing))
	}
	return "", nil
}

func (r *reader) lookMagic(thing string) error {
	switch {
	case thing == magic:
		r.expect(frameFlags, 1)
	case thing[0]>>4 == passed && thing[1:] == passing:
		r.expect(passedNumber, numberBytes)
	default:
		return &Fault{Code: api.ErrMagic}
	}
	return nil
}

func (r *reader) pass(count int) {
	r.need -= int64(count)
	if r.need == 0 {
		r.beginFrame()
	}
}

func (r *reader) lookFlags(b byte) error {
	if b&fixedFlags != version {
		return &Fault{Code: api.ErrFlags}
	}
	r.flags = b
	r.head = append(r.head, b)
	r.expect(frameSize, 1)
	return nil
}

func (r *reader) has(flag byte) bool { return r.flags&flag != 0 }

func (r *reader) lookSize(b byte) error {
	if b&fixedSize != 0 {
		return &Fault{Code: api.ErrFlags}
	}
	size := int(b >> sizePlace)
	if size < leastSize || size > mostSize {
		return &Fault{Code: api.ErrSize}
	}
	r.lid = lidOf(size)
	r.head = append(r.head, b)
	if r.has(lengthTold) {
		r.expect(frameLength, lengthBytes)
	} else {
		r.expect(frameCheck, 1)
	}
	return nil
}

func (r *reader) lookLength(thing string) {
	r.left = asNumber(thing)
	r.head = append(r.head, thing...)
	r.expect(frameCheck, 1)
}

func (r *reader) lookCheck(b byte) error {
	if b != checkOf(string(r.head)) {
		return &Fault{Code: api.ErrHead}
	}
	r.head = nil
	if r.has(textSum) {
		r.sum = sums.New(0)
	}
	r.expect(blockNumber, numberBytes)
	return nil
}

func (r *reader) lookNumber(n uint32) error {
	if n == 0 {
		return r.lookEnd()
	}
	r.plain, r.count = n&stored != 0, int(n&^stored)
	if r.count == 0 || r.count > r.lid {
		return &Fault{Code: api.ErrSize}
	}
	need := r.count
	if r.has(blockSums) {
		need += sumBytes
	}
	r.expect(blockBytes, need)
	return nil
}

// lookEnd takes the four noughts behind the blocks.
func (r *reader) lookEnd() error {
	if r.left > 0 {
		return &Fault{Code: api.ErrSize}
	}
	if r.has(textSum) {
		r.expect(frameSum, sumBytes)
	} else {
		r.beginFrame()
	}
	return nil
}

func (r *reader) lookBlock(block, sum string) (string, error) {
	if r.has(blockSums) && sum != sumOf(block) {
		return "", &Fault{At: len(block), Code: api.ErrSum}
	}
	text, e := r.textOf(block)
	if e != nil {
		return "", e
	}
	if r.has(lengthTold) {
		if uint64(len(text)) > r.left {
			return "", &Fault{At: -numberBytes, Code: api.ErrSize}
		}
		r.left -= uint64(len(text))
	}
	if len(text) > r.room {
		return "", &Fault{At: -numberBytes, Code: api.ErrMost}
	}
	r.room -= len(text)
	r.goOn(text)
	return text, nil
}

// textOf is the text of a block.
func (r *reader) textOf(block string) (string, error) {
	if r.plain {
		return block, nil
	}
	text, e, at := lz4.ExpandOn(r.before.end(), block, r.lid) // of blocks that are alone nothing is kept: it is Expand
	if e != api.OK {
		return "", &Fault{At: at, Code: e}
	}
	return text, nil
}

// goOn keeps what the things behind a block ask of its text.
func (r *reader) goOn(text string) {
	if r.has(textSum) {
		r.sum.Write(text)
	}
	if !r.has(alone) {
		r.before.add(text)
	}
	r.expect(blockNumber, numberBytes)
}

func (r *reader) lookSum(thing string) error {
	if asNumber(thing) != uint64(r.sum.Sum()) {
		return &Fault{Code: api.ErrSum}
	}
	r.beginFrame()
	return nil
}
