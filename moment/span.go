package moment

import (
	"strconv"
	"strings"

	"dragnet/api"
)

const (
	decimal    = "0123456789"
	mostDigits = 15
)

type unit struct {
	name   string
	millis int
}

// units are those of a span, the greatest one first.
var units = [...]unit{{"d", dayMillis}, {"h", hourMillis}, {"m", minuteMillis}, {"s", secondMillis}, {"ms", 1}}

func isSpan(n int) bool { return n >= 1 && n <= api.MaxStamp }

// part is one of a span as a text: digits, and behind them all that is no digit.
type part struct {
	digits, unit string
}

// cutPart cuts the first part off a text.
func cutPart(s string) (part, string) {
	behind := strings.TrimLeft(s, decimal)
	size := strings.IndexAny(behind, decimal)
	if size < 0 {
		size = len(behind)
	}
	return part{digits: s[:len(s)-len(behind)], unit: behind[:size]}, behind[size:]
}

// count is a part's number; 0, if it may not be one.
func (p part) count() int {
	if len(p.digits) > mostDigits || strings.HasPrefix(p.digits, "0") {
		return 0
	}
	t := taker{left: p.digits}
	return t.number(len(p.digits))
}

// unitFrom is which one a part's unit is, of those from a place on; -1, if it is none of these.
func (p part) unitFrom(place int) int {
	for i := place; i < len(units); i++ {
		if units[i].name == p.unit {
			return i
		}
	}
	return -1
}

// Span reads milliseconds as 1h30m, Spell writes them.
func Span(s string) (int, api.Errno) {
	sum, next := 0, 0
	for s != "" {
		var p part
		p, s = cutPart(s)
		count, which := p.count(), p.unitFrom(next)
		if count == 0 || which < 0 || count > (api.MaxStamp-sum)/units[which].millis { // divided: the product might go round
			return 0, api.ErrSpan
		}
		sum += count * units[which].millis
		next = which + 1
	}
	if sum == 0 { // there was no part
		return 0, api.ErrSpan
	}
	return sum, api.OK
}

func Spell(n int) (string, api.Errno) {
	if !isSpan(n) {
		return "", api.ErrSpan
	}
	var out strings.Builder
	for _, u := range units {
		if count := n / u.millis; count > 0 {
			out.WriteString(strconv.Itoa(count))
			out.WriteString(u.name)
		}
		n %= u.millis
	}
	return out.String(), api.OK
}
