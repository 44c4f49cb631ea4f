package moment

import (
	"strings"

	"dragnet/api"
)

// taker takes a text apart from the front. It is lost when something else stands there than is wanted: what it takes then means nothing.
type taker struct {
	left string
	lost bool
}

// has takes a byte, if it is the next one.
func (t *taker) has(b byte) bool {
	if t.left == "" || t.left[0] != b {
		return false
	}
	t.left = t.left[1:]
	return true
}

func (t *taker) sign(b byte) {
	if !t.has(b) {
		t.lost = true
	}
}

// ended: is here the end of a stamp that a line begins with?
func (t *taker) ended() bool { return t.left == "" || t.left[0] == ' ' }

// number takes so many digits.
func (t *taker) number(size int) int {
	n := 0
	for range size {
		if t.left == "" || t.left[0] < '0' || t.left[0] > '9' {
			t.lost = true
			return 0
		}
		n = n*10 + int(t.left[0]-'0')
		t.left = t.left[1:]
	}
	return n
}

func (t *taker) day(d *api.Date) {
	d.Year = t.number(4)
	t.sign('-')
	d.Month = t.number(2)
	t.sign('-')
	d.Day = t.number(2)
}

func (t *taker) time(d *api.Date) {
	t.seconds(d)
	if t.has('.') {
		d.Milli = t.number(3)
	}
}

func (t *taker) seconds(d *api.Date) {
	d.Hour = t.number(2)
	t.sign(':')
	d.Minute = t.number(2)
	t.sign(':')
	d.Second = t.number(2)
}

func (t *taker) zone() zone {
	if t.has('Z') {
		return zone{}
	}
	z := zone{sign: t.plusOrMinus()}
	z.hours = t.number(2)
	t.sign(':')
	z.minutes = t.number(2)
	return z
}

func (t *taker) plusOrMinus() int {
	if t.has('-') {
		return -1
	}
	t.sign('+')
	return 1
}

func (t *taker) monthName() int {
	for i, name := range monthNames {
		if rest, ok := strings.CutPrefix(t.left, name); ok {
			t.left = rest
			return i + 1
		}
	}
	t.lost = true
	return 0
}
