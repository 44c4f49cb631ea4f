package code

import (
	"math/rand"
	"strings"
	"testing"
	"unsafe"

	"dragnet/api"
)

// stands holds a Reader against the place at which it must be.
func stands(t *testing.T, r *Reader, b string, at int) {
	t.Helper()
	end := api.OK
	if at < len(b) {
		end = api.ErrRest
	}
	for range 2 { // asked twice: it changes nothing
		if r.At() != at || r.Left() != len(b)-at || r.End() != end {
			t.Fatalf("reading %x: At %d, Left %d, End %v, want the place %d", b, r.At(), r.Left(), r.End(), at)
		}
	}
}

func TestReadExample(t *testing.T) { // 3.2
	b := "\xac\x02\x05"
	r := Read(b)
	stands(t, r, b, 0)
	if n, e := r.Uint(); n != 300 || e != api.OK {
		t.Errorf("Uint: %d, %v", n, e)
	}
	stands(t, r, b, 2)
	if s, e := r.Text(); s != "" || e != api.ErrShort {
		t.Errorf("Text: %q, %v", s, e)
	}
	stands(t, r, b, 2)
	if s, e := r.Take(1); s != "\x05" || e != api.OK {
		t.Errorf("Take(1): %q, %v", s, e)
	}
	stands(t, r, b, 3)
	if s, e := r.Take(1); s != "" || e != api.ErrShort {
		t.Errorf("Take(1) at the end: %q, %v", s, e)
	}
	if s, e := r.Take(-1); s != "" || e != api.ErrArg {
		t.Errorf("Take(-1): %q, %v", s, e)
	}
	stands(t, r, b, 3)
}

func TestReadUint(t *testing.T) { // 3.2
	eights, highs := strings.Repeat("\x80", 9), strings.Repeat("\xff", 9)
	for _, c := range []struct {
		b    string
		want uint64
		e    api.Errno
	}{
		{"", 0, api.ErrShort}, {"\x80", 0, api.ErrShort}, {"\x00", 0, api.OK}, {"\x80\x00", 0, api.ErrForm}, {"\x81\x80\x00", 0, api.ErrForm},
		{highs, 0, api.ErrShort}, {highs + "\x02", 0, api.ErrOver}, {highs + "\x01", 1<<64 - 1, api.OK}, {highs + "\x80", 0, api.ErrOver},
		{eights + "\x00", 0, api.ErrForm}, {eights + "\x01", 1 << 63, api.OK}, {eights + "\x81\x00", 0, api.ErrOver}, {"\x80\x00" + highs, 0, api.ErrForm},
	} {
		if got, e := Read(c.b).Uint(); got != c.want || e != c.e {
			t.Errorf("Uint of %x: %d, %v, want %d, %v", c.b, got, e, c.want, c.e)
		}
	}
	for _, b := range anyBytes() {
		r := Read("ahead" + b)
		r.Take(5)
		got, e := r.Uint()
		want, why, size := plainRead(b)
		if got != want || e != why {
			t.Fatalf("Uint of %x: %d, %v, want %d, %v", b, got, e, want, why)
		}
		stands(t, r, "ahead"+b, 5+size)
		if e == api.OK && Uint(got) != b[:size] { // 3.5
			t.Fatalf("Uint of %x: %d, written again %x", b, got, Uint(got))
		}
	}
}

func TestReadInt(t *testing.T) { // 3.2
	for b, want := range map[string]int{"\x00": 0, "\x01": -1, "\x02": 1, "\x03": -2, strings.Repeat("\xff", 9) + "\x01": least, "\xfe" + strings.Repeat("\xff", 8) + "\x01": greatest} {
		if got, e := Read(b).Int(); got != want || e != api.OK {
			t.Errorf("Int of %x: %d, %v, want %d", b, got, e, want)
		}
	}
	for _, b := range anyBytes() {
		r := Read(b)
		got, e := r.Int()
		written, why, size := plainRead(b)
		if e != why || e != api.OK && got != 0 {
			t.Fatalf("Int of %x: %d, %v, want %v", b, got, e, why)
		}
		stands(t, r, b, size)
		if e == api.OK && (plainWritten(got).Cmp(number(written)) != 0 || Int(got) != b[:size]) { // 3.5
			t.Fatalf("Int of %x: %d, written as %d, again %x", b, got, written, Int(got))
		}
	}
}

func TestReadText(t *testing.T) { // 3.2
	for _, b := range anyBytes() {
		for _, behind := range []string{"", "x", "\x00\x01", strings.Repeat("x", 127), strings.Repeat("y", 300)} {
			all := b + behind
			r := Read(all)
			got, e := r.Text()
			length, why, size := plainRead(all)
			want, end := "", 0
			if why == api.OK && length > uint64(len(all)-size) {
				why = api.ErrShort
			} else if why == api.OK {
				end = size + int(length)
				want = all[size:end]
			}
			if got != want || e != why {
				t.Fatalf("Text of %x: %q, %v, want %q, %v", all, got, e, want, why)
			}
			stands(t, r, all, end)
			if e == api.OK && Text(got) != all[:end] { // 3.5
				t.Fatalf("Text of %x: %q, written again %x", all, got, Text(got))
			}
		}
	}
}

func TestReadTextFar(t *testing.T) { // 3.2: lengths that no int has room for, or that would go round with the place
	for _, n := range []uint64{1<<64 - 1, 1 << 63, 1<<63 - 1, 1<<63 - 10, 1 << 32, 4} {
		b := "abcde" + Uint(n) + "xyz"
		r := Read(b)
		r.Take(5)
		if s, e := r.Text(); s != "" || e != api.ErrShort {
			t.Errorf("a Text of %d bytes: %q, %v", n, s, e)
		}
		stands(t, r, b, 5)
	}
}

func TestReadFixed(t *testing.T) { // 3.2
	b := "\x01\x02\x03\x04\x05\x06\x07\xf8"
	for from := range len(b) + 1 {
		for _, width := range []int{least, -8, -1, 0, 1, 2, 3, 4, 5, 6, 7, 8, 9, 16, 256, greatest} {
			r := Read(b)
			r.Take(from)
			want, why, end := uint64(0), api.OK, from
			switch {
			case width < 1 || width > 8:
				why = api.ErrArg
			case from+width > len(b):
				why = api.ErrShort
			default:
				end = from + width
				for i := end - 1; i >= from; i-- {
					want = want*256 + uint64(b[i])
				}
			}
			if got, e := r.Fixed(width); got != want || e != why {
				t.Errorf("Fixed(%d) from %d on: %x, %v, want %x, %v", width, from, got, e, want, why)
			}
			stands(t, r, b, end)
		}
	}
}

func TestTake(t *testing.T) { // 3.2
	b := "abcdef"
	for from := range len(b) + 1 {
		for _, n := range []int{least, -greatest, -7, -1, 0, 1, 2, 5, 6, 7, greatest - 5, greatest} {
			r := Read(b)
			r.Take(from)
			want, why, end := "", api.OK, from
			switch {
			case n < 0:
				why = api.ErrArg
			case n > len(b)-from:
				why = api.ErrShort
			default:
				end = from + n
				want = b[from:end]
			}
			if got, e := r.Take(n); got != want || e != why {
				t.Errorf("Take(%d) from %d on: %q, %v, want %q, %v", n, from, got, e, want, why)
			}
			stands(t, r, b, end)
		}
	}
}

func TestAnswersAreNew(t *testing.T) { // P3
	b := Text("abc") + strings.Repeat("def", 100)
	r := Read(b)
	text, _ := r.Text()
	taken, _ := r.Take(3)
	all, _ := Read(b).Take(len(b))
	for at, got := range map[int]string{0: all, 1: text, 4: taken} {
		if unsafe.StringData(got) == unsafe.StringData(b[at:]) {
			t.Errorf("%.10q shares memory with what was handed in", got)
		}
	}
}

func TestReadersApart(t *testing.T) { // 3.2: what one reads shows in it alone
	b := "abc"
	first, second := Read(b), Read(b)
	first.Take(2)
	stands(t, first, b, 2)
	stands(t, second, b, 0)
}

// written is some of the four kinds, one behind the other, and how to read each again.
type written struct {
	all  string
	ends []int
	read []func(r *Reader) (same bool, e api.Errno)
}

func (w *written) add(bytes string, read func(r *Reader) (bool, api.Errno)) {
	w.all += bytes
	w.ends = append(w.ends, len(w.all))
	w.read = append(w.read, read)
}

func (w *written) addOne(source *rand.Rand) {
	n := source.Uint64() >> source.Intn(64)
	switch source.Intn(4) {
	case 0:
		w.add(Uint(n), func(r *Reader) (bool, api.Errno) { got, e := r.Uint(); return got == n, e })
	case 1:
		i := int(n) - int(n>>1)*source.Intn(4)
		w.add(Int(i), func(r *Reader) (bool, api.Errno) { got, e := r.Int(); return got == i, e })
	case 2:
		s := anyText(source, source.Intn(1<<source.Intn(9)))
		w.add(Text(s), func(r *Reader) (bool, api.Errno) { got, e := r.Text(); return got == s, e })
	case 3:
		width := 1 + source.Intn(8)
		n >>= 64 - 8*width
		s, _ := Fixed(n, width)
		w.add(s, func(r *Reader) (bool, api.Errno) { got, e := r.Fixed(width); return got == n, e })
	}
}

func TestReadAgain(t *testing.T) { // 3.5
	source := rand.New(rand.NewSource(35))
	for range 2000 {
		var w written
		for range 1 + source.Intn(12) {
			w.addOne(source)
		}
		b := w.all + anyText(source, source.Intn(12))
		r := Read(b)
		for i, read := range w.read {
			if same, e := read(r); !same || e != api.OK {
				t.Fatalf("%x, item %d: %v", b, i, e)
			}
			stands(t, r, b, w.ends[i])
		}
	}
}

func TestReadCut(t *testing.T) { // 3.2, 3.5: none begins with another one's: what is cut anywhere within its last item is short there
	source := rand.New(rand.NewSource(53))
	for range 500 {
		var w written
		w.addOne(source)
		w.addOne(source)
		for cut := w.ends[0]; cut < w.ends[1]; cut++ {
			b := w.all[:cut]
			r := Read(b)
			if same, e := w.read[0](r); !same || e != api.OK {
				t.Fatalf("%x: %v", b, e)
			}
			if _, e := w.read[1](r); e != api.ErrShort {
				t.Fatalf("%x: %v, want %v", b, e, api.ErrShort)
			}
			stands(t, r, b, w.ends[0])
		}
	}
}
