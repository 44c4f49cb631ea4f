package moment

import (
	"strings"

	"dragnet/api"
)

// monthNames are the months' names in a bracket, January's first.
var monthNames = [...]string{"Jan", "Feb", "Mar", "Apr", "May", "Jun", "Jul", "Aug", "Sep", "Oct", "Nov", "Dec"}

// told is what a text tells of a moment; whether there is such a one, is asked when all of the text is read.
type told struct {
	date api.Date
	zone zone
}

// zone is by how much a day and time are ahead of those of UTC; with the sign -1 they are behind.
type zone struct {
	sign, hours, minutes int
}

func (z zone) millis() int { return z.sign * (z.hours*hourMillis + z.minutes*minuteMillis) }

func (t told) stamp() (int, api.Errno) {
	n, e := Of(t.date)
	if e != api.OK {
		return 0, e
	}
	if t.zone.hours > 23 || t.zone.minutes > 59 {
		return 0, api.ErrDate
	}
	n -= t.zone.millis()
	if !isStamp(n) {
		return 0, api.ErrDate
	}
	return n, api.OK
}

func Read(s string) (int, api.Errno) {
	t := taker{left: s}
	var m told
	t.day(&m.date)
	t.sign('T')
	t.time(&m.date)
	m.zone = t.zone()
	if t.lost || t.left != "" {
		return 0, api.ErrChar
	}
	return m.stamp()
}

// Ahead is the stamp with which a line begins, in one of several forms, and what stands behind it (a copy: it does not keep the line).
func Ahead(line string) (int, string, bool) {
	t := taker{left: line}
	stamp, e := t.ahead()
	if t.lost || e != api.OK || !t.ended() {
		return 0, "", false
	}
	t.has(' ')
	return stamp, strings.Clone(t.left), true
}

// ahead takes a stamp in the one form that a line of such a beginning may have.
func (t *taker) ahead() (int, api.Errno) {
	switch {
	case t.has('['):
		return t.bracket()
	case len(t.left) > 4 && t.left[4] == '-':
		return t.dated()
	}
	return t.counted(), api.OK
}

func (t *taker) bracket() (int, api.Errno) {
	var m told
	m.date.Day = t.number(2)
	t.sign('/')
	m.date.Month = t.monthName()
	t.sign('/')
	m.date.Year = t.number(4)
	t.sign(':')
	t.seconds(&m.date)
	t.sign(' ')
	m.zone.sign = t.plusOrMinus()
	m.zone.hours = t.number(2)
	m.zone.minutes = t.number(2)
	t.sign(']')
	return m.stamp()
}

func (t *taker) dated() (int, api.Errno) {
	var m told
	t.day(&m.date)
	if !t.has('T') {
		t.sign(' ')
	}
	t.time(&m.date)
	if !t.ended() {
		m.zone = t.zone()
	}
	return m.stamp()
}

// counted takes ten digits or thirteen: the greatest number of these is a stamp.
func (t *taker) counted() int {
	seconds := t.number(10)
	if t.ended() {
		return seconds * secondMillis
	}
	return seconds*secondMillis + t.number(3)
}
