package fields

// The chapter's words by other means: a walk byte by byte with regexes, fractions without bounds, all short texts.

import (
	"fmt"
	"iter"
	"math/big"
	"math/rand"
	"regexp"
	"strings"
	"unsafe"

	"dragnet/api"
	"dragnet/object"
)

const (
	least    = -1 << 63
	greatest = 1<<63 - 1
)

// allOps is the comparisons that there are; others are none.
var allOps = []int{api.OpIs, api.OpNot, api.OpBelow, api.OpMost, api.OpAbove, api.OpLeast, api.OpHas}

// Regexes are of characters: here a byte is the character of its number.
func latin(s string) string {
	all := make([]rune, len(s))
	for i := range len(s) {
		all[i] = rune(s[i])
	}
	return string(all)
}

// unlatin is the bytes of a text that latin made.
func unlatin(s string) string {
	var all []byte
	for _, r := range s {
		all = append(all, byte(r))
	}
	return string(all)
}

var (
	nameForm     = regexp.MustCompile(`\A[A-Za-z_][A-Za-z0-9_.\-\[\]]{0,63}\z`)
	nameRow      = regexp.MustCompile(`\A[A-Za-z0-9_.\-\[\]]+`)
	endsInName   = regexp.MustCompile(`[A-Za-z0-9_.\-\[\]]\z`)
	quotedForm   = regexp.MustCompile(`(?s)\A"((?:[^"\\]|\\.)*)"`)
	unquotedForm = regexp.MustCompile(`\A[^ \t,;]*`)
	pairForm     = regexp.MustCompile(`(?s)\\(.)`)
	numberForm   = regexp.MustCompile(`\A-?[0-9]{1,9}(?:\.[0-9]{1,3})?\z`)
	shownForm    = regexp.MustCompile(`\A-?(?:0|[1-9][0-9]{0,8})(?:\.[0-9]{0,2}[1-9])?\z`)
)

// plainAll is what All must answer.
func plainAll(line string) []api.Pair {
	if v, e, _ := object.Parse(line); e == api.OK && v.Kind == api.ValObject {
		return plainFlat(v, "")
	}
	var all []api.Pair
	text := latin(line)
	ahead := ""
	pass := func(s string) {
		ahead += s
		text = text[len(s):]
	}
	for text != "" {
		name := nameRow.FindString(text)
		if endsInName.MatchString(ahead) || !nameForm.MatchString(name) || !strings.HasPrefix(text[len(name):], "=") {
			pass(string([]rune(text)[:1]))
			continue
		}
		pass(name + "=")
		value := unquotedForm.FindString(text)
		if m := quotedForm.FindStringSubmatch(text); m != nil {
			pass(m[0])
			value = pairForm.ReplaceAllStringFunc(m[1], func(pair string) string {
				if pair == `\"` || pair == `\\` {
					return pair[1:]
				}
				return pair
			})
		} else {
			pass(value)
		}
		all = append(all, api.Pair{Name: unlatin(name), Value: unlatin(value)})
	}
	return all
}

// plainFlat is the plain values in one, and their paths.
func plainFlat(v api.Value, path string) []api.Pair {
	var all []api.Pair
	switch v.Kind {
	case api.ValNull:
		return []api.Pair{{Name: path, Value: "null"}}
	case api.ValFalse:
		return []api.Pair{{Name: path, Value: "false"}}
	case api.ValTrue:
		return []api.Pair{{Name: path, Value: "true"}}
	case api.ValNumber, api.ValText:
		return []api.Pair{{Name: path, Value: v.Text}}
	}
	for i, kid := range v.Kids {
		to := fmt.Sprintf("%s[%d]", path, i)
		if v.Kind == api.ValObject {
			to = path + "." + v.Names[i]
			if path == "" {
				to = v.Names[i]
			}
		}
		all = append(all, plainFlat(kid, to)...)
	}
	return all
}

// plainGet is the first of some pairs with a name.
func plainGet(all []api.Pair, name string) (string, bool) {
	for _, p := range all {
		if p.Name == name {
			return p.Value, true
		}
	}
	return "", false
}

// plainNumber is the fraction that a text is, if it is one.
func plainNumber(s string) (*big.Rat, bool) {
	if !numberForm.MatchString(latin(s)) {
		return nil, false
	}
	return new(big.Rat).SetString(s)
}

func thousandths(n int) *big.Rat { return big.NewRat(int64(n), 1000) }

// plainIs is what Is must answer.
func plainIs(value string, op int, want string) bool {
	if op == api.OpHas {
		for i := 0; i+len(want) <= len(value); i++ {
			if value[i:i+len(want)] == want {
				return true
			}
		}
		return false
	}
	below, above := value < want, value > want
	x, isX := plainNumber(value)
	y, isY := plainNumber(want)
	if isX && isY {
		below, above = x.Cmp(y) < 0, x.Cmp(y) > 0
	}
	switch op {
	case api.OpIs:
		return !below && !above
	case api.OpNot:
		return below || above
	case api.OpBelow:
		return below
	case api.OpMost:
		return !above
	case api.OpAbove:
		return above
	case api.OpLeast:
		return !below
	}
	return false
}

// plainLess is what Less must answer.
func plainLess(a, b string) bool {
	x, isX := plainNumber(a)
	y, isY := plainNumber(b)
	return isX && !isY ||
		isX && isY && (x.Cmp(y) < 0 || x.Cmp(y) == 0 && a < b) ||
		!isX && !isY && a < b
}

// shortTexts goes over all texts of at most so many of these pieces.
func shortTexts(pieces []string, most int) iter.Seq[string] {
	return func(yield func(string) bool) {
		texts := []string{""}
		for size := 0; ; size++ {
			var next []string
			for _, s := range texts {
				if !yield(s) {
					return
				}
				for _, p := range pieces {
					next = append(next, s+p)
				}
			}
			if size == most {
				return
			}
			texts = next
		}
	}
}

// anyPieces is so many of these, by chance.
func anyPieces(r *rand.Rand, pieces []string, n int) string {
	var b strings.Builder
	for range n {
		b.WriteString(pieces[r.Intn(len(pieces))])
	}
	return b.String()
}

func anyBytes(r *rand.Rand, n int) string {
	all := make([]byte, n)
	for i := range all {
		all[i] = byte(r.Intn(256))
	}
	return string(all)
}

// someValues is numbers, texts that are nearly numbers, and others.
func someValues() []string {
	return []string{"", "0", "-0", "0.0", "-0.000", "00", "000000000", "1", "1.0", "1.00", "1.000", "01", "1.5", "1.50", "-1", "-1.5", "-1.25", "0.001", "-0.001", "0.01", "0.1", "-0.1", "9", "10", "007", "7", "2", "100",
		"999999999.999", "-999999999.999", "999999999", "-999999999", "999999998.999", "0000000000", "1234567890", "1000000000", "-1000000000", "1.", ".5", "-.5", "-", ".", "--1", "+1", "1.2345", "1e3", "1 ", " 1", "1,5", "0x1", "1_0", "1.2.3", "1.-2", "-1-", "\u0661", "1\x00", "NaN", "Inf",
		"a", "b", "A", "ab", "aB", "9x", "10x", "-x", "\x00", "\xff", "\u00e9", " ", "null", "true"}
}

func isWithin(s, of string) bool {
	at := uintptr(unsafe.Pointer(unsafe.StringData(s)))
	from := uintptr(unsafe.Pointer(unsafe.StringData(of)))
	return len(s) > 0 && at >= from && at < from+uintptr(len(of))
}
