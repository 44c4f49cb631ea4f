package fields

import (
	"cmp"
	"strconv"
	"strings"

	"dragnet/api"
)

// What a number may have ahead of its dot and behind it.
const (
	mostWhole = 9
	mostParts = 3
	thousand  = 1000
)

// Number reads a number, in thousandths; Show writes one.
func Number(s string) (int, bool) {
	amount, below := strings.CutPrefix(s, "-")
	whole, parts, dotted := strings.Cut(amount, ".")
	if !isDigits(whole, mostWhole) || dotted && !isDigits(parts, mostParts) {
		return 0, false
	}
	n, _ := strconv.Atoi(whole + (parts + "000")[:mostParts]) // twelve digits: there is room for them
	if below {
		n = -n
	}
	return n, true
}

// isDigits: are these one digit to so many?
func isDigits(s string, most int) bool {
	return s != "" && len(s) <= most && rowSize(s, isDigit) == len(s)
}

func Show(n int) string {
	if n < -api.MaxValue || n > api.MaxValue {
		return ""
	}
	sign := ""
	if n < 0 {
		sign, n = "-", -n
	}
	parts := strconv.Itoa(thousand + n%thousand)[1:] // with the noughts ahead
	if parts = strings.TrimRight(parts, "0"); parts != "" {
		parts = "." + parts
	}
	return sign + strconv.Itoa(n/thousand) + parts
}

// Is tells whether a value stands so to another one.
func Is(value string, op int, want string) bool {
	switch op {
	case api.OpHas:
		return strings.Contains(value, want)
	case api.OpIs:
		return compare(value, want) == 0
	case api.OpNot:
		return compare(value, want) != 0
	case api.OpBelow:
		return compare(value, want) < 0
	case api.OpMost:
		return compare(value, want) <= 0
	case api.OpAbove:
		return compare(value, want) > 0
	case api.OpLeast:
		return compare(value, want) >= 0
	}
	return false
}

// compare is below 0, 0 or above 0, as a is below b, is b, or is above b.
func compare(a, b string) int {
	m, isA := Number(a)
	n, isB := Number(b)
	if isA && isB {
		return cmp.Compare(m, n)
	}
	return cmp.Compare(a, b)
}

// Less tells whether a value comes ahead of another one.
func Less(a, b string) bool {
	m, isA := Number(a)
	n, isB := Number(b)
	switch {
	case isA != isB:
		return isA
	case m != n: // where none is a number, both are 0
		return m < n
	}
	return a < b
}
