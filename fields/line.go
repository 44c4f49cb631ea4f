package fields

import (
	"iter"
	"strings"

	"dragnet/api"
	"dragnet/object"
)

// pairs goes over the fields of a line.
func pairs(line string) iter.Seq2[string, string] {
	if v, ok := readObject(line); ok {
		return object.Flat(v)
	}
	return func(yield func(string, string) bool) { walk(line, yield) }
}

func readObject(line string) (api.Value, bool) {
	// Most lines are no JSON texts, and for object.Parse it is dear to give up.
	if !strings.HasPrefix(strings.TrimLeft(line, " \t\n\r"), "{") {
		return api.Value{}, false
	}
	v, e, _ := object.Parse(line)
	return v, e == api.OK
}

// walk goes over the fields of a line that is no object, until it is told to leave off.
func walk(line string, yield func(string, string) bool) {
	may := isNameByte()
	for rest := line; rest != ""; { // ahead of rest no name byte stands
		size := rowSize(rest, may)
		name, behind := rest[:size], rest[size:]
		if !Name(name) || !strings.HasPrefix(behind, "=") {
			rest = behind[min(1, len(behind)):] // within a row no name begins, and what ends one is no name byte
			continue
		}
		var value string
		value, rest = cutValue(behind[1:])
		if !yield(name, value) {
			return
		}
	}
}

// cutValue cuts off the Value that a text begins with.
func cutValue(s string) (value, rest string) {
	if inner, ok := strings.CutPrefix(s, `"`); ok {
		if value, rest, closed := cutQuoted(inner); closed {
			return value, rest
		}
	}
	size := rowSize(s, isValueByte())
	return s[:size], s[size:]
}

// cutQuoted cuts off a quoted Value, of which the first quotation mark is off already, if there is one that closes it.
func cutQuoted(s string) (value, rest string, closed bool) {
	var meant []byte
	for i := 0; i < len(s); i++ {
		switch {
		case s[i] == '"':
			return string(meant), s[i+1:], true
		case s[i] == '\\' && i+1 < len(s):
			i++
			if s[i] != '"' && s[i] != '\\' {
				meant = append(meant, '\\') // such a pair means both of its bytes
			}
		}
		meant = append(meant, s[i])
	}
	return "", "", false
}
