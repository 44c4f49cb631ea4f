package fields

import "strings"

// rowSize is how many bytes that a row may have stand side by side at the front of a text.
func rowSize(s string, may func(byte) bool) int {
	for i := range len(s) {
		if !may(s[i]) {
			return i
		}
	}
	return len(s)
}

func isLetter(b byte) bool { return b >= 'A' && b <= 'Z' || b >= 'a' && b <= 'z' }

func isDigit(b byte) bool { return b >= '0' && b <= '9' }

// isNameByte is what a name may have.
func isNameByte() func(byte) bool {
	isSign := oneOf("_.-[]")
	return func(b byte) bool { return isLetter(b) || isDigit(b) || isSign(b) }
}

// isValueByte is what a Value without quotation marks may have.
func isValueByte() func(byte) bool {
	ends := oneOf(" \t,;")
	return func(b byte) bool { return !ends(b) }
}

func oneOf(signs string) func(byte) bool {
	return func(b byte) bool { return strings.IndexByte(signs, b) >= 0 }
}
