package object

import (
	"fmt"
	"math/rand"
	"slices"
	"strconv"
	"strings"
	"testing"
	"unicode/utf16"
	"unsafe"

	"dragnet/api"
)

func TestParseExamples(t *testing.T) { // 13.1
	v, e, at := Parse(" {\"a\": [1, -0.5e+3, \"x\\u00e9\\n\"], \"b\": null} ")
	want := members([]string{"a", "b"}, list(digits("1"), digits("-0.5e+3"), words("x\xc3\xa9\n")), null())
	if !plainSame(v, want) || e != api.OK || at != 0 {
		t.Errorf("%v, %v, %d", v, e, at)
	}
	v, e, at = Parse(`"\uD83D\uDE00"`)
	if !plainSame(v, words("\xf0\x9f\x98\x80")) || e != api.OK || at != 0 {
		t.Errorf("%v, %v, %d", v, e, at)
	}
	for _, c := range []struct {
		s  string
		e  api.Errno
		at int
	}{
		{strings.Repeat(" ", 65537), api.ErrLong, 0}, {strings.Repeat(" ", 65536), api.ErrJSON, 65536}, {"", api.ErrJSON, 0}, {"01", api.ErrJSON, 1}, {"-", api.ErrJSON, 1}, {"1.", api.ErrJSON, 2}, {"1e", api.ErrJSON, 2}, {"tru", api.ErrJSON, 3}, {"trux", api.ErrJSON, 3},
		{"[1,]", api.ErrJSON, 3}, {"[1 2]", api.ErrJSON, 3}, {`{"a" 1}`, api.ErrJSON, 5}, {"{a}", api.ErrJSON, 1}, {"1 2", api.ErrJSON, 2}, {`"\x"`, api.ErrJSON, 2}, {`"\uDE00"`, api.ErrJSON, 4}, {`"\uD83Dx"`, api.ErrJSON, 7}, {`"\uD83D\n"`, api.ErrJSON, 8}, {"\"ab\xff\"", api.ErrJSON, 3}, {"\"\n", api.ErrJSON, 1},
		{`{"a":1,"\u0061":2}`, api.ErrTwice, 7}, {`{"a":1,"a"`, api.ErrTwice, 7}, {`{"a":1,"a`, api.ErrJSON, 9}, {strings.Repeat("[", 41), api.ErrDeep, 40}, {strings.Repeat("[", 40), api.ErrJSON, 40},
	} {
		if v, e, at := Parse(c.s); !plainSame(v, api.Value{}) || e != c.e || at != c.at {
			t.Errorf("Parse(%.60q): %v, %v, %d, want %v, %d", c.s, v, e, at, c.e, c.at)
		}
		if len(c.s) < 1000 {
			holdsParse(t, c.s)
		}
	}
}

func TestParseEachKind(t *testing.T) { // 13.1
	for s, want := range map[string]api.Value{
		"null": {Kind: 1}, "false": {Kind: 2}, "true": {Kind: 3}, "0": {Kind: 4, Text: "0"}, "-0": {Kind: 4, Text: "-0"}, "10.50E+07": {Kind: 4, Text: "10.50E+07"}, `""`: {Kind: 5}, `"a"`: {Kind: 5, Text: "a"}, "[]": {Kind: 6}, "{}": {Kind: 7},
		"[[],[null]]": list(list(), list(null())), `{"":{},"a":[{}]}`: members([]string{"", "a"}, members(nil), list(members(nil))), `{"b":1,"a":2}`: members([]string{"b", "a"}, digits("1"), digits("2")),
		`"\"\\\/\b\f\n\r\t"`: words("\"\\/\b\f\n\r\t"), `"\u0000"`: words("\x00"), `{"\u0000":1,"\u0001":1}`: members([]string{"\x00", "\x01"}, digits("1"), digits("1")),
	} {
		for _, blank := range []string{"", " ", "\t", "\n", "\r", " \r\n\t "} {
			if v, e, at := Parse(blank + s + blank); !plainSame(v, want) || e != api.OK || at != 0 {
				t.Errorf("Parse(%q): %v, %v, %d, want %v", blank+s+blank, v, e, at, want)
			}
		}
		for _, other := range []string{"\x00", "\v", "\f", "\xa0", "\u00a0", "\u2028", "\ufeff", "/", "#"} {
			if v, e, at := Parse(other + s); !plainSame(v, api.Value{}) || e != api.ErrJSON || at != 0 {
				t.Errorf("Parse(%q): %v, %v, %d", other+s, v, e, at)
			}
			if v, e, at := Parse(s + other); !plainSame(v, api.Value{}) || e != api.ErrJSON || at != len(s) {
				t.Errorf("Parse(%q): %v, %v, %d", s+other, v, e, at)
			}
		}
	}
}

// goOver goes over all texts of at most so many of the letters, but those behind a byte that can't stand.
func goOver(t *testing.T, s, letters string, most int, texts *int) {
	*texts++
	holdsParse(t, s)
	if len(s) == most {
		return
	}
	for i := range len(letters) {
		next := s + letters[i:i+1]
		if plainGoesOn(next) {
			goOver(t, next, letters, most, texts)
			continue
		}
		for _, rest := range []string{"", "0", `"`, "]", letters} {
			if v, e, at := Parse(next + rest); !plainSame(v, api.Value{}) || e != api.ErrJSON || at != len(s) {
				t.Fatalf("Parse(%q): %v, %v, %d, want %v, %d", next+rest, v, e, at, api.ErrJSON, len(s))
			}
		}
	}
}

// allSigns is each byte that means something somewhere, and those beside it.
const allSigns = "\x00 \t\n\v\r!\"#$%&'()*+,-./0189:;<>?@AEFGU[\\]^_`abefgnrstuxz{|}~\x7f\x80\xa0\xc2\xe0\xf0\xff"

func TestParseAllShort(t *testing.T) { // 13.1
	for _, c := range []struct {
		from, letters string
		more, texts   int
	}{
		{"", allSigns, 3, 4000}, {"", `{}[]:,"0 `, 5, 5000}, {"[-", "-+.019eE ]", 5, 2000}, {"", "nultrefas,[]", 6, 90},
		{`"\u`, `0dD8bBcCfFgG"\u`, 3, 800}, {`"\uD83D`, `\ud0DcCeg"`, 5, 10}, {`"\uDbfF\`, `\ud0DcCeg"`, 5, 100}, {`"`, "\"\x7f\x80\x8f\x90\x9f\xa0\xbf\xc1\xc2\xdf\xe0\xe1\xec\xed\xee\xef\xf0\xf1\xf3\xf4\xf5", 3, 500},
	} {
		texts := 0
		goOver(t, c.from, c.letters, len(c.from)+c.more, &texts)
		if texts < c.texts {
			t.Errorf("from %q on by %q: %d texts", c.from, c.letters, texts)
		}
	}
}

// hurtTexts is right ones, with all that the grammar has.
func hurtTexts() []string {
	return []string{"null", " false\n", "\ttrue\r", "-10.20e+30", "0.5E-9", "[ 1 , [ ] ,{ } ]", `{"a":{"b":[10,{"c":"x"}]},"d":[]}`, ` { "a" : 1 , "b" : "" } `, `{"a":1,"b":2,"ab":{"a":3}}`,
		`"\"\\\/\b\f\n\r\t"`, `"\u00e9\uD83D\uDE00x"`, `"\udbff\udfff\uE000"`, "\"~\x7f\u00e9\u0800\ud7ff\ue000\U00010000\U0010ffff\"", `{"\u0061":1,"\\u0061":2,"A":3}`}
}

func TestParseHurt(t *testing.T) { // 13.1: each byte of right texts exchanged for others, gone, put in, exchanged with the next one, and the text doubled
	for _, s := range hurtTexts() {
		for at := range len(s) + 1 {
			for i := range len(allSigns) {
				one := allSigns[i : i+1]
				holdsParse(t, s[:at]+one+s[at:])
				if at < len(s) {
					holdsParse(t, s[:at]+one+s[at+1:])
				}
			}
			if at < len(s) {
				holdsParse(t, s[:at]+s[at+1:])
				holdsParse(t, s[:at]+s[at:]+s[at:])
			}
			if at+1 < len(s) {
				holdsParse(t, s[:at]+s[at+1:at+2]+s[at:at+1]+s[at+2:])
			}
		}
	}
}

func TestParseByChance(t *testing.T) { // 13.1, 13.7
	r := rand.New(rand.NewSource(131))
	counts := map[api.Errno]int{}
	for range 8000 {
		s := jsonBy(r, 1+r.Intn(5))
		if r.Intn(2) == 0 && len(s) > 0 {
			at := r.Intn(len(s))
			s = pick(r, s[:at], s[:at]+s[at+1:], s[:at]+anyBytes(r, "", 1)+s[at:], s[:at]+anyBytes(r, `{}[]:,"\u0e-`, 1)+s[at+1:])
		}
		if len(s) < 400 {
			holdsParse(t, s)
		}
		_, e, _ := Parse(s)
		counts[e]++
	}
	for range 8000 {
		holdsParse(t, anyBytes(r, pick(r, "", `{}[]:,"\u0D8e- `, `[]01,`, `{}":0,`, `"\u08dDcC`), r.Intn(16)))
	}
	for _, e := range []api.Errno{api.OK, api.ErrJSON, api.ErrTwice} {
		if counts[e] < 20 {
			t.Errorf("%v: %d times alone", e, counts[e])
		}
	}
}

func TestParseCharacters(t *testing.T) { // 13.1: UTF-8, all two bytes, and more of them by their edges
	edges := "\x1f~\x7f\x80\xbf\xc0\xff"
	for first := range 256 {
		for second := range 256 {
			two := string([]byte{byte(first), byte(second)})
			for i := range len(edges) {
				holdsCharacter(t, two+edges[i:i+1]+"\x80")
				holdsCharacter(t, two+"\x80"+edges[i:i+1])
			}
		}
	}
}

// holdsCharacter tells whether a byte that can't stand in a text is found, by what utf8Form says of texts up to it with any tail. Bytes that mean something else in texts are left to others.
func holdsCharacter(t *testing.T, s string) {
	t.Helper()
	if strings.ContainsAny(s, "\"\\") {
		return
	}
	want := len(s) + 2
	for i := range len(s) {
		goes := s[i] >= 32 && slices.ContainsFunc([]string{"", "\x80", "\x80\x80", "\x80\x80\x80", "\xa0\x80", "\x90\x80\x80"}, func(tail string) bool { return utf8Form.MatchString(latin(s[:i+1] + tail)) })
		if !goes {
			want = i + 1
			break
		}
		if i == len(s)-1 && !utf8Form.MatchString(latin(s)) {
			want = len(s) + 1 // a character is cut off
		}
	}
	v, e, at := Parse(`"` + s + `"`)
	if want == len(s)+2 {
		if v.Text != s || e != api.OK || at != 0 {
			t.Fatalf("Parse of %q: %q, %v, %d", s, v.Text, e, at)
		}
	} else if v.Text != "" || e != api.ErrJSON || at != want {
		t.Fatalf("Parse of %q: %q, %v, %d, want %d", s, v.Text, e, at, want)
	}
}

func TestParseNumberedCharacters(t *testing.T) { // 13.1
	for n := range 0x10000 {
		small, big := fmt.Sprintf("%04x", n), fmt.Sprintf("%04X", n)
		for _, s := range []string{small, big, small[:2] + big[2:]} {
			v, e, at := Parse(`["\u` + s + `"]`)
			switch {
			case n >= 0xDC00 && n <= 0xDFFF:
				if len(v.Kids) != 0 || e != api.ErrJSON || at != 5 {
					t.Fatalf("%s: %v, %v, %d", s, v, e, at)
				}
			case n >= 0xD800 && n <= 0xDBFF:
				if len(v.Kids) != 0 || e != api.ErrJSON || at != 8 {
					t.Fatalf("%s: %v, %v, %d", s, v, e, at)
				}
			case e != api.OK || at != 0 || !plainSame(v, list(words(string(rune(n))))):
				t.Fatalf("%s: %v, %v, %d", s, v, e, at)
			}
		}
	}
	r := rand.New(rand.NewSource(1311))
	for n := range 0x10000 {
		for _, first := range []int{0xD800, 0xD801, 0xDBFF, 0xD800 + r.Intn(0x400)} {
			s := fmt.Sprintf(pick(r, `"\u%04x\u%04X"`, `"\u%04X\u%04x"`), first, n)
			v, e, at := Parse(s)
			switch {
			case n>>12 != 0xD:
				if v.Text != "" || e != api.ErrJSON || at != 9 {
					t.Fatalf("%s: %v, %v, %d", s, v, e, at)
				}
			case n < 0xDC00:
				if v.Text != "" || e != api.ErrJSON || at != 10 {
					t.Fatalf("%s: %v, %v, %d", s, v, e, at)
				}
			case e != api.OK || at != 0 || v.Text != string(utf16.DecodeRune(rune(first), rune(n))):
				t.Fatalf("%s: %v, %v, %d", s, v, e, at)
			}
		}
	}
}

func TestParseDeep(t *testing.T) { // 13.1
	r := rand.New(rand.NewSource(1312))
	for range 50 {
		for deep := 38; deep <= 43; deep++ {
			open, closing := "", ""
			for range deep {
				open += blanksBy(r)
				if r.Intn(2) == 0 {
					open, closing = open+"[", "]"+closing
				} else {
					open, closing = open+`{"a":`, "}"+closing
				}
			}
			for _, middle := range []string{"0", "[]", "{}", "[[]]", "[0[", "\"[[[[", "0,[", "\xff", "["} {
				s := open + middle + closing
				holdsParse(t, s)
				holdsParse(t, s[:r.Intn(len(s)+1)])
			}
		}
	}
	inner := strings.Repeat("[", 39) + strings.Repeat("]", 39)
	for s, want := range map[string]int{
		"[" + inner + "," + inner + "," + inner + "]": 0, "[" + inner + "," + inner + ",[" + inner + "]]": 1 + 79 + 79 + 39, "[" + strings.Repeat("[],{},", 5000) + inner + "]": 0, "[" + strings.Repeat("[],{},", 5000) + "[" + inner + "]]": 1 + 30000 + 39,
		`{"[[":"` + strings.Repeat("[{", 100) + `","a":` + inner + "}": 0, `{"[[":"` + strings.Repeat("[{", 100) + `","a":[` + inner + "]}": 7 + 200 + 6 + 39,
	} {
		e := api.OK
		if want > 0 {
			e = api.ErrDeep
		}
		if _, got, at := Parse(s); got != e || at != want {
			t.Errorf("Parse(%.100q): %v, %d, want %v, %d", s, got, at, e, want)
		}
	}
	fail := strings.Repeat("[", 41)
	for s, want := range map[string]api.Errno{fail + "x": api.ErrDeep, fail + strings.Repeat("]", 50): api.ErrDeep, fail[:40] + "0[": api.ErrJSON, "x" + fail: api.ErrJSON, `{"a":1,"a":` + fail: api.ErrTwice, "[" + fail + `,{"a":1,"a"`: api.ErrDeep} {
		if _, e, _ := Parse(s); e != want {
			t.Errorf("Parse(%q): %v, want %v", s, e, want)
		}
	}
}

func TestParseTwice(t *testing.T) { // 13.1
	for _, c := range []struct {
		s  string
		e  api.Errno
		at int
	}{
		{`{"a":1,"b":2,"a":3}`, api.ErrTwice, 13}, {`{"a":1, "a" x`, api.ErrTwice, 8}, {`{"":1,"":2}`, api.ErrTwice, 6}, {`{"\n":1,"\u000A":2}`, api.ErrTwice, 8}, {`{"é":1,"\u00e9"`, api.ErrTwice, 8}, {`{"\uD83D\uDE00":1,"` + "\xf0\x9f\x98\x80" + `":1}`, api.ErrTwice, 18}, {`{"\/":1,"/":1}`, api.ErrTwice, 8},
		{`{"a":1,"b":{"a":2,"a":3}}`, api.ErrTwice, 18}, {`[{"a":1},{"a":1}]`, api.OK, 0}, {`{"a":{"a":{"a":1}}}`, api.OK, 0}, {`{"a":{"b":1},"b":{"a":1}}`, api.OK, 0}, {`{"a":{"b":1},"b":{"a":1},"b":1}`, api.ErrTwice, 25}, {`{"a":"b","b":"a"}`, api.OK, 0}, {`{"a":"a"}`, api.OK, 0}, {`{"a":1,"A":1,"a ":1," a":1}`, api.OK, 0}, {`{"\\u0061":1,"a":1}`, api.OK, 0}, {`{"e":1,"e` + "\u0301" + `":1}`, api.OK, 0},
		{`{"a":1,"a\x"`, api.ErrJSON, 10}, {`{"a":1,"a` + "\n", api.ErrJSON, 9}, {`{"a":1,"ab"`, api.ErrJSON, 11}, {`{"a":x,"a":1}`, api.ErrJSON, 5}, {`{"a":1,"a":x`, api.ErrTwice, 7}, {`{"a":1 "a"`, api.ErrJSON, 7},
	} {
		if v, e, at := Parse(c.s); e != c.e || at != c.at || e != api.OK && !plainSame(v, api.Value{}) {
			t.Errorf("Parse(%q): %v, %v, %d, want %v, %d", c.s, v, e, at, c.e, c.at)
		}
		holdsParse(t, c.s)
	}
	var b strings.Builder
	for i := range 6000 {
		b.WriteString(`"` + strconv.Itoa(i) + `":0,`)
	}
	many := b.String()
	if v, e, _ := Parse("{" + many + `"x":1}`); len(v.Kids) != 6001 || e != api.OK {
		t.Errorf("6001 names: %d, %v", len(v.Kids), e)
	}
	for _, name := range []string{"0", "3000", "5999"} {
		if _, e, at := Parse("{" + many + `"` + name + `":1}`); e != api.ErrTwice || at != 1+len(many) {
			t.Errorf("%s twice: %v, %d", name, e, at)
		}
	}
}

func TestParseLong(t *testing.T) { // 13.1
	long := func(n int, ahead, fill, behind string) string {
		return ahead + strings.Repeat(fill, (n-len(ahead)-len(behind))/len(fill)) + behind
	}
	for _, parts := range [][3]string{{"", " ", "1"}, {"1", " ", ""}, {`"`, "a", `"`}, {"", "1", ""}, {"[0", ",0", "] "}, {`["`, "\u00e9", `"]`}} {
		s := long(65536, parts[0], parts[1], parts[2])
		if len(s) != 65536 {
			t.Fatalf("%q: %d bytes", parts, len(s))
		}
		v, e, at := Parse(s)
		if e != api.OK || at != 0 {
			t.Errorf("%q, 65536 bytes: %v, %d", parts, e, at)
		}
		holdsRead(t, s, v)
		for _, more := range []string{" ", "x", "]", strings.Repeat(" ", 1000)} {
			for _, s := range []string{s + more, more + s} {
				if v, e, at := Parse(s); e != api.ErrLong || at != 0 || !plainSame(v, api.Value{}) {
					t.Errorf("%q, %d bytes: %v, %d", parts, len(s), e, at)
				}
			}
		}
	}
	for _, s := range []string{strings.Repeat("[", 65537), "x" + strings.Repeat(" ", 65536), `{"a":1,"a":` + strings.Repeat("1", 65536)} {
		if v, e, at := Parse(s); e != api.ErrLong || at != 0 || !plainSame(v, api.Value{}) {
			t.Errorf("Parse(%.20q), too long: %v, %d", s, e, at)
		}
	}
}

func TestParseCutOff(t *testing.T) { // 13.7
	r := rand.New(rand.NewSource(1371))
	texts := hurtTexts()
	for range 300 {
		texts = append(texts, jsonBy(r, 4))
	}
	for _, s := range texts {
		if _, e, _ := Parse(s); e != api.OK {
			continue
		}
		end := strings.LastIndexAny(s, `]}"`)
		for at := 0; at <= end; at++ {
			if v, e, place := Parse(s[:at]); e != api.ErrJSON || place != at || !plainSame(v, api.Value{}) {
				t.Fatalf("Parse(%q): %v, %v, %d", s[:at], v, e, place)
			}
		}
	}
}

// scribble writes over all of a value, and into the spare room of its lists.
func scribble(v *api.Value) {
	for i := range v.Kids {
		scribble(&v.Kids[i])
	}
	names, kids := v.Names[:cap(v.Names)], v.Kids[:cap(v.Kids)]
	for i := range names {
		names[i] = "scribble"
	}
	for i := range kids {
		kids[i] = words("scribble")
	}
	v.Kind, v.Text = api.ValText, "scribble"
}

func TestParseIsNew(t *testing.T) { // P3, P4
	s := `{"a":[1,2,[3,4],{"b":5,"c":6}],"d":[7,8,9],"e":{"f":{},"g":[]}}`
	want, _, _ := plainParse(s)
	for i := range want.Kids {
		v, _, _ := Parse(s)
		again, _, _ := Parse(s)
		scribble(&v.Kids[i])
		for j := range want.Kids {
			if i != j && !plainSame(v.Kids[j], want.Kids[j]) {
				t.Errorf("Kid %d, when %d was written into: %v", j, i, v.Kids[j])
			}
		}
		if !slices.Equal(v.Names, want.Names) || !plainSame(again, want) {
			t.Errorf("when Kid %d was written into: %v, %v", i, v.Names, again)
		}
	}
}

// within tells whether a text is a part of another one's memory.
func within(s, of string) bool {
	at := uintptr(unsafe.Pointer(unsafe.StringData(s)))
	from := uintptr(unsafe.Pointer(unsafe.StringData(of)))
	return len(s) > 0 && at >= from && at < from+uintptr(len(of))
}

// textsOf is all Texts and Names in a value.
func textsOf(v api.Value) []string {
	all := append([]string{v.Text}, v.Names...)
	for _, kid := range v.Kids {
		all = append(all, textsOf(kid)...)
	}
	return all
}

func TestTextsAreNew(t *testing.T) { // P3
	s := strings.Clone(`{"a":[1,"x"],"bc":{"def":-1.5e9}}`)
	v, _, _ := Parse(s)
	for _, text := range textsOf(v) {
		if within(text, s) {
			t.Errorf("Parse tells %q, a part of what it was given", text)
		}
	}
	told := []string{}
	for _, path := range []string{"", "a", "a[0]", "a[1]", "bc", "bc.def"} {
		got, _ := Get(v, path)
		told = append(told, textsOf(got)...)
	}
	for path, text := range Flat(v) {
		told = append(told, path, text)
	}
	for _, one := range told {
		for _, kept := range textsOf(v) {
			if within(one, kept) {
				t.Errorf("%q is a part of what was given", one)
			}
		}
	}
}
