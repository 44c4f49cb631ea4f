package record

import (
	"encoding/binary"
	"math/big"
	"math/rand"
	"slices"
	"strings"
	"unsafe"

	"dragnet/api"
)

// The plain forms here do what the chapter's words say, one by one, with the numbers of the published form that encoding/binary has, or as great numbers; the calls are held against them.

func plainPayload(l []api.Line) string {
	b := binary.AppendUvarint(nil, uint64(len(l)))
	for n := range l {
		if n == 0 {
			b = binary.AppendVarint(b, int64(l[0].Stamp))
		} else {
			b = binary.AppendVarint(b, int64(l[n].Stamp-l[n-1].Stamp))
		}
	}
	for n := range l {
		b = binary.AppendUvarint(b, uint64(len(l[n].Text)))
	}
	for n := range l {
		b = append(b, l[n].Text...)
	}
	return string(b)
}

func plainRefuses(l api.Line) api.Errno {
	if len(l.Text) > 8192 || strings.Contains(l.Text, "\n") {
		return api.ErrLine
	}
	if l.Stamp < 0 || l.Stamp > 253402300799999 {
		return api.ErrStamp
	}
	return api.OK
}

func plainEncode(l []api.Line) (string, api.Errno, int) {
	for n := range l {
		if e := plainRefuses(l[n]); e != api.OK {
			return "", e, n
		}
		if len(plainPayload(l[:n+1])) > 131072 {
			return "", api.ErrMost, n
		}
	}
	return plainPayload(l), api.OK, 0
}

// plainFault is what a reader throws.
type plainFault struct {
	code api.Errno
	at   int
}

type plainReader struct {
	b  string
	at int
}

// number reads one; refused, the place is where it begins.
func (r *plainReader) number() *big.Int {
	begin, sum := r.at, new(big.Int)
	for i := 0; ; i++ {
		if r.at == len(r.b) {
			panic(plainFault{api.ErrShort, begin})
		}
		x := int64(r.b[r.at])
		if i == 9 && x > 1 {
			panic(plainFault{api.ErrOver, begin})
		}
		if i > 0 && x == 0 {
			panic(plainFault{api.ErrForm, begin})
		}
		r.at++
		group := big.NewInt(x % 128)
		sum.Add(sum, group.Lsh(group, uint(7*i)))
		if x < 128 {
			return sum
		}
	}
}

// signed reads an int of any sign.
func (r *plainReader) signed() *big.Int {
	n := r.number()
	if n.Bit(0) == 0 {
		return n.Rsh(n, 1)
	}
	n.Add(n, big.NewInt(1))
	return n.Neg(n.Rsh(n, 1))
}

func within(n *big.Int, least, most int64) bool {
	return n.Cmp(big.NewInt(least)) >= 0 && n.Cmp(big.NewInt(most)) <= 0
}

func (r *plainReader) lines() []api.Line {
	var list []api.Line
	count := r.number()
	stamp := new(big.Int)
	for n := new(big.Int); n.Cmp(count) < 0; n.Add(n, big.NewInt(1)) {
		at := r.at
		stamp.Add(stamp, r.signed())
		if !within(stamp, 0, 253402300799999) {
			panic(plainFault{api.ErrStamp, at})
		}
		list = append(list, api.Line{Stamp: int(stamp.Int64())})
	}
	var lengths []int
	for range list {
		at := r.at
		length := r.number()
		if !within(length, 0, 8192) {
			panic(plainFault{api.ErrLine, at})
		}
		lengths = append(lengths, int(length.Int64()))
	}
	for n, length := range lengths {
		if len(r.b)-r.at < length {
			panic(plainFault{api.ErrShort, len(r.b)})
		}
		text := r.b[r.at : r.at+length]
		for i := range length {
			if text[i] == 10 {
				panic(plainFault{api.ErrLine, r.at + i})
			}
		}
		list[n].Text = text
		r.at += length
	}
	if r.at < len(r.b) {
		panic(plainFault{api.ErrRest, r.at})
	}
	return list
}

func plainDecode(b string) (l []api.Line, e api.Errno, at int) {
	if len(b) > 131072 {
		return nil, api.ErrMost, 131072
	}
	defer func() {
		if f, is := recover().(plainFault); is {
			l, e, at = nil, f.code, f.at
		}
	}()
	r := plainReader{b: b}
	return r.lines(), api.OK, 0
}

// stampByChance is near one of the ends, near others, or anywhere.
func stampByChance(source *rand.Rand) int {
	switch source.Intn(4) {
	case 0:
		return source.Intn(200)
	case 1:
		return api.MaxStamp - source.Intn(200)
	case 2:
		return 1763208000000 + source.Intn(1<<source.Intn(30))
	}
	return source.Intn(1 << source.Intn(48) % (api.MaxStamp + 1))
}

func textByChance(source *rand.Rand) string {
	n := source.Intn(12)
	if source.Intn(10) == 0 {
		n = 100 + source.Intn(200)
	}
	b := make([]byte, n)
	source.Read(b)
	return strings.ReplaceAll(string(b), "\n", "\r")
}

func linesByChance(source *rand.Rand, most int) []api.Line {
	var l []api.Line
	for range source.Intn(most + 1) {
		l = append(l, api.Line{Stamp: stampByChance(source), Text: textByChance(source)})
	}
	return l
}

// lists are some that may be: of no line, of each number of lines at which a byte more is needed, of the limits.
func lists() [][]api.Line {
	source := rand.New(rand.NewSource(17))
	longest := strings.Repeat("x", api.MaxLine)
	out := [][]api.Line{nil, {{}}, {{Stamp: 5, Text: "ab"}, {Stamp: 3}}, {{Text: longest}}, {{Stamp: api.MaxStamp}, {}, {Stamp: api.MaxStamp, Text: longest}, {Text: longest}}, {{Text: "\x00\xff\r\t \x0b\x09"}}}
	for _, n := range []int{126, 127, 128, 129, 300, 16383, 16384} {
		out = append(out, slices.Repeat([]api.Line{{Stamp: 1, Text: "a"}}, n))
	}
	for _, n := range []int{1, 63, 64, 65, 127, 128, 129, 8191, 8192} {
		out = append(out, []api.Line{{Stamp: n, Text: strings.Repeat("y", n)}, {Text: "z"}})
	}
	for range 300 {
		out = append(out, linesByChance(source, 20))
	}
	return out
}

// spelt is the texts of up to so many bytes, each one of the letters.
func spelt(letters string, most int) []string {
	out, longest := []string{""}, []string{""}
	for range most {
		var longer []string
		for _, s := range longest {
			for i := range len(letters) {
				longer = append(longer, s+letters[i:i+1])
			}
		}
		out, longest = append(out, longer...), longer
	}
	return out
}

// standsIn tells whether a text's memory is a piece of another one's.
func standsIn(s, of string) bool {
	if s == "" || of == "" {
		return false
	}
	at, from := uintptr(unsafe.Pointer(unsafe.StringData(s))), uintptr(unsafe.Pointer(unsafe.StringData(of)))
	return from <= at && at < from+uintptr(len(of))
}
