package syntax

import (
	"math/rand"
	"strings"
	"testing"

	"dragnet/api"
)

func TestParse(t *testing.T) { // 8.1
	a, b, c := one('a'), one('b'), one('c')
	for _, x := range []struct {
		text string
		want api.Regex
	}{
		{"", empty}, {"()", empty}, {"(())", empty}, {"a", a}, {"(a)", a}, {"((a))", a},
		{"ab|c*", alt(cat(a, b), rep(c, 0, api.Infinite))}, {"(ab)c", cat(cat(a, b), c)}, {"a|", alt(a, empty)}, {"|", alt(empty, empty)}, {"||a", alt(empty, empty, a)},
		{"(a|b)", alt(a, b)}, {"(a|b)|c", alt(alt(a, b), c)}, {"a(b|c)", cat(a, alt(b, c))}, {"a()b", cat(a, empty, b)}, {"(a|)b", cat(alt(a, empty), b)},
		{"^a$|b", alt(cat(begin, a, end), b)}, {"^$", cat(begin, end)}, {"^", begin}, {"$", end}, {"^|$", alt(begin, end)}, {"a|^b|c$|", alt(a, cat(begin, b), cat(c, end), empty)},
		{"^(a|b)$", cat(begin, alt(a, b), end)}, {"()$", cat(empty, end)},
		{"a*", rep(a, 0, api.Infinite)}, {"a+", rep(a, 1, api.Infinite)}, {"a?", rep(a, 0, 1)}, {"a{0}", rep(a, 0, 0)}, {"a{255}", rep(a, 255, 255)}, {"a{0,}", rep(a, 0, api.Infinite)},
		{"a{2,}", rep(a, 2, api.Infinite)}, {"a{0,0}", rep(a, 0, 0)}, {"a{2,2}", rep(a, 2, 2)}, {"a{0,255}", rep(a, 0, 255)}, {"a{10,20}", rep(a, 10, 20)}, {"a{255,}", rep(a, 255, api.Infinite)},
		{"ab*", cat(a, rep(b, 0, api.Infinite))}, {"(ab)*", rep(cat(a, b), 0, api.Infinite)}, {"(a*)*", rep(rep(a, 0, api.Infinite), 0, api.Infinite)}, {"()*", rep(empty, 0, api.Infinite)}, {"a*b+c?", cat(rep(a, 0, api.Infinite), rep(b, 1, api.Infinite), rep(c, 0, 1))},
		{".*", rep(anyOf(api.Set{^uint64(0), ^uint64(0), ^uint64(0), ^uint64(0)}), 0, api.Infinite)}, {"]}-,", cat(one(']'), one('}'), one('-'), one(','))}, {"a]{2}", cat(a, rep(one(']'), 2, 2))},
		{"\x00\xff\n", cat(one(0), one(255), one(10))}, {`\.*`, rep(one('.'), 0, api.Infinite)}, {`[ab]{1,2}`, rep(anyOf(setOf("ab")), 1, 2)}, {`\d?`, rep(anyOf(setOf("0123456789")), 0, 1)},
	} {
		if r, e, at := Parse(x.text); e != api.OK || at != 0 || !plainSame(r, x.want) {
			t.Errorf("Parse(%q): %v, %v, %d, want %v", x.text, r, e, at, x.want)
		}
	}
}

func TestParseSets(t *testing.T) { // 8.1
	not := func(text string) api.Set {
		return setWhere(func(b int) bool { return strings.IndexByte(text, byte(b)) < 0 })
	}
	const word = "0123456789ABCDEFGHIJKLMNOPQRSTUVWXYZ_abcdefghijklmnopqrstuvwxyz"
	for _, x := range []struct {
		text string
		want api.Set
	}{
		{`\n`, setOf("\n")}, {`\t`, setOf("\t")}, {`\r`, setOf("\r")}, {`\x00`, set(0)}, {`\xfF`, set(255)}, {`\x4a`, setOf("J")}, {`\xA0`, set(160)}, {`\\`, setOf("\\")}, {`\ `, setOf(" ")}, {`\~`, setOf("~")}, {`\_`, setOf("_")}, {`\-`, setOf("-")},
		{`\d`, setOf("0123456789")}, {`\D`, not("0123456789")}, {`\w`, setOf(word)}, {`\W`, not(word)}, {`\s`, setOf("\t\n\v\f\r ")}, {`\S`, not("\t\n\v\f\r ")},
		{`[a]`, setOf("a")}, {`[^a]`, not("a")}, {`[a-c]`, setOf("abc")}, {`[a-a]`, setOf("a")}, {`[^a-c]`, not("abc")}, {`[a-c-]`, setOf("abc-")}, {`[-a]`, setOf("-a")}, {`[a-]`, setOf("a-")}, {`[-]`, setOf("-")}, {`[--]`, setOf("-")}, {`[---]`, setOf("-")},
		{`[--0]`, setOf("-./0")}, {`[+--]`, setOf("+,-")}, {`[a-c-e]`, setOf("abc-e")}, {`[^-a]`, not("-a")}, {`[^^]`, not("^")}, {`[a^]`, setOf("a^")}, {`[^-]`, not("-")}, {`[^--0]`, not("-./0")},
		{`[[]`, setOf("[")}, {`[(|)*+?{}.$]`, setOf("(|)*+?{}.$")}, {`[\]]`, setOf("]")}, {`[\^a]`, setOf("^a")}, {`[\-a]`, setOf("-a")}, {`[a\-c]`, setOf("a-c")}, {`[Z-\]]`, setOf("Z[\\]")}, {`[\x41-\x43]`, setOf("ABC")}, {`[\t-\r]`, setOf("\t\n\v\f\r")},
		{`[\d]`, setOf("0123456789")}, {`[\d-z]`, setOf("0123456789-z")}, {`[\d-]`, setOf("0123456789-")}, {`[\d--0]`, setOf("0123456789-./")}, {`[^\d]`, not("0123456789")}, {`[^\D]`, setOf("0123456789")}, {`[\s\S]`, not("")}, {`[^\x00-\xff]`, api.Set{}}, {`[^\w\W]`, api.Set{}},
		{"[\x80-\xff\x00]", setWhere(func(b int) bool { return b == 0 || b >= 128 })}, {"[\n]", setOf("\n")}, {`[aa-ab]`, setOf("ab")}, {`[.]`, setOf(".")}, {`.`, not("")},
	} {
		if r, e, at := Parse(x.text); e != api.OK || at != 0 || !plainSame(r, anyOf(x.want)) {
			t.Errorf("Parse(%q): %v, %v, %d, want %v", x.text, r, e, at, x.want)
		}
	}
}

func TestParseRefuses(t *testing.T) { // 8.1
	for _, x := range []struct {
		text string
		want api.Errno
		at   int
	}{
		{"a)", api.ErrParen, 1}, {")", api.ErrParen, 0}, {"(a))", api.ErrParen, 3}, {"|)", api.ErrParen, 1}, {"(a", api.ErrParen, 2}, {"(", api.ErrParen, 1}, {"((a)", api.ErrParen, 4}, {"(a|", api.ErrParen, 3}, {"(a)b)(", api.ErrParen, 4},
		{"*a", api.ErrRepeat, 0}, {"|?", api.ErrRepeat, 1}, {"(+)", api.ErrRepeat, 1}, {"(?:a)", api.ErrRepeat, 1}, {"a**", api.ErrRepeat, 2}, {"a*?", api.ErrRepeat, 2}, {"a?+", api.ErrRepeat, 2}, {"a{2}{3}", api.ErrRepeat, 4}, {"a{2}*", api.ErrRepeat, 4}, {"a+{", api.ErrRepeat, 2},
		{"^*", api.ErrRepeat, 1}, {"^{2}", api.ErrRepeat, 1}, {"a|^+", api.ErrRepeat, 3}, {"{", api.ErrRepeat, 0}, {"{2}", api.ErrRepeat, 0}, {"a|{2}", api.ErrRepeat, 2}, {"(a)(*", api.ErrRepeat, 4},
		{"a{3,2}", api.ErrRepeat, 1}, {"a{256}", api.ErrRepeat, 1}, {"a{256,}", api.ErrRepeat, 1}, {"a{0,256}", api.ErrRepeat, 1}, {"a{x}", api.ErrRepeat, 1}, {"a{1", api.ErrRepeat, 1}, {"a{", api.ErrRepeat, 1}, {"a{}", api.ErrRepeat, 1}, {"a{1,", api.ErrRepeat, 1}, {"a{1,2", api.ErrRepeat, 1},
		{"a{,}", api.ErrRepeat, 1}, {"a{,2}", api.ErrRepeat, 1}, {"a{01}", api.ErrRepeat, 1}, {"a{00}", api.ErrRepeat, 1}, {"a{0,01}", api.ErrRepeat, 1}, {"a{1,2,3}", api.ErrRepeat, 1}, {"a{1 }", api.ErrRepeat, 1}, {"a{ 1}", api.ErrRepeat, 1}, {"a{-1}", api.ErrRepeat, 1}, {"a{+1}", api.ErrRepeat, 1}, {"a{1,x}", api.ErrRepeat, 1}, {"a{1x}", api.ErrRepeat, 1},
		{"a{18446744073709551617}", api.ErrRepeat, 1}, {"a{1,18446744073709551618}", api.ErrRepeat, 1}, {"a{" + strings.Repeat("9", 1000) + "}", api.ErrRepeat, 1}, {"a{1000}", api.ErrRepeat, 1}, {"a{2550}", api.ErrRepeat, 1},
		{"a^", api.ErrAnchor, 1}, {"(^a)", api.ErrAnchor, 1}, {"^^", api.ErrAnchor, 1}, {"()^", api.ErrAnchor, 2}, {"a|b^", api.ErrAnchor, 3}, {"(a|^)", api.ErrAnchor, 3}, {"a^*", api.ErrAnchor, 1}, {"(^", api.ErrAnchor, 1},
		{"$a", api.ErrAnchor, 0}, {"$$", api.ErrAnchor, 0}, {"$^", api.ErrAnchor, 0}, {"(a$)", api.ErrAnchor, 2}, {"($", api.ErrAnchor, 1}, {"($|a)", api.ErrAnchor, 1}, {"a$)", api.ErrAnchor, 1}, {"a$*", api.ErrAnchor, 1}, {"a${", api.ErrAnchor, 1}, {"$(", api.ErrAnchor, 0}, {`$\q`, api.ErrAnchor, 0}, {"$[", api.ErrAnchor, 0}, {"a$|$b", api.ErrAnchor, 3},
		{"[]", api.ErrClass, 1}, {"[]a]", api.ErrClass, 1}, {"[^]", api.ErrClass, 2}, {"[^]a]", api.ErrClass, 2}, {"[", api.ErrClass, 1}, {"[^", api.ErrClass, 2}, {"[ab", api.ErrClass, 3}, {"[a-", api.ErrClass, 3}, {"[a-b", api.ErrClass, 4}, {"[-", api.ErrClass, 2}, {"a|[(", api.ErrClass, 4},
		{"[b-a]", api.ErrClass, 3}, {"[a-Z]", api.ErrClass, 3}, {"[a--]", api.ErrClass, 3}, {`[a-\d]`, api.ErrClass, 3}, {`[a-\S]`, api.ErrClass, 3}, {`[\x41-\x40]`, api.ErrClass, 6}, {`[a-\]]`, api.ErrClass, 3}, {`[b-a`, api.ErrClass, 3}, {`[a-\w`, api.ErrClass, 3}, {"[\xff-\xfe]", api.ErrClass, 3},
		{`\q`, api.ErrEscape, 0}, {`\x4`, api.ErrEscape, 0}, {`\`, api.ErrEscape, 0}, {`\x`, api.ErrEscape, 0}, {`\x4g`, api.ErrEscape, 0}, {`\xg4`, api.ErrEscape, 0}, {`\X41`, api.ErrEscape, 0}, {`\0`, api.ErrEscape, 0}, {`\9`, api.ErrEscape, 0}, {`\N`, api.ErrEscape, 0}, {`\b`, api.ErrEscape, 0}, {"\\\n", api.ErrEscape, 0}, {"\\\x1f", api.ErrEscape, 0}, {"\\\x7f", api.ErrEscape, 0}, {"\\\x80", api.ErrEscape, 0}, {`a\`, api.ErrEscape, 1},
		{`[\q]`, api.ErrEscape, 1}, {`[\`, api.ErrEscape, 1}, {`[a\x4]`, api.ErrEscape, 2}, {`[a-\q]`, api.ErrEscape, 3}, {`[a-\`, api.ErrEscape, 3}, {`[a-\x4]`, api.ErrEscape, 3}, {`[z-\x4`, api.ErrEscape, 3}, {`(\`, api.ErrEscape, 1}, {`([\`, api.ErrEscape, 2}, {`(a{1`, api.ErrRepeat, 2},
	} {
		if r, e, at := Parse(x.text); e != x.want || at != x.at || !plainSame(r, api.Regex{}) {
			t.Errorf("Parse(%q): %v, %v, %d, want %v, %d", x.text, r, e, at, x.want, x.at)
		}
	}
}

// Where a text ends within a class that stands in brackets, both errors have its end as their place: that is told which the promise names first.
func TestParseEndsInBoth(t *testing.T) { // 8.1, P2
	for _, x := range []struct {
		text string
		want api.Errno
		at   int
	}{
		{"([", api.ErrParen, 2}, {"([^", api.ErrParen, 3}, {"([a", api.ErrParen, 3}, {"((a)[a-", api.ErrParen, 7}, {"([a-b", api.ErrParen, 5},
		{"(a)[", api.ErrClass, 4}, {"([]", api.ErrClass, 2}, {"([b-a", api.ErrClass, 4},
	} {
		if r, e, at := Parse(x.text); e != x.want || at != x.at || !plainSame(r, api.Regex{}) {
			t.Errorf("Parse(%q): %v, %d, want %v, %d", x.text, e, at, x.want, x.at)
		}
	}
}

func TestParseLimits(t *testing.T) { // 8.1, 8.2
	nest := func(n int, inner string) string {
		return strings.Repeat("(", n) + inner + strings.Repeat(")", n)
	}
	ladder := func(n int) string { return strings.Repeat("(", n) + "a" + strings.Repeat("b|c)*", n) } // three parts within one another each
	for _, x := range []struct {
		name, text string
		want       api.Errno
		at         int
	}{
		{"1024 bytes", strings.Repeat("|", 1024), api.OK, 0}, {"1025 bytes", strings.Repeat("|", 1025), api.ErrLong, 0}, {"1025 bytes, wrong ones", strings.Repeat(")", 1025), api.ErrLong, 0}, {"2^20 bytes", strings.Repeat("a", 1<<20), api.ErrLong, 0},
		{"40 brackets", nest(40, "a"), api.OK, 0}, {"41 brackets", nest(41, "a"), api.ErrDeep, 40}, {"41 open", strings.Repeat("(", 41), api.ErrDeep, 40}, {"40 open", strings.Repeat("(", 40), api.ErrParen, 40}, {"one wrong within 40", nest(40, "*"), api.ErrRepeat, 40},
		{"40 side by side", strings.Repeat("(a)", 60) + nest(40, "a") + nest(40, ""), api.OK, 0}, {"41 behind others", strings.Repeat("(a)", 60) + nest(41, "a"), api.ErrDeep, 220}, {"41 in a class", "[" + strings.Repeat("(", 41) + "]", api.OK, 0},
		{"40 parts deep", ladder(13), api.OK, 0}, {"43 parts deep", ladder(14), api.ErrDeep, 0}, {"deep and wrong at its end", ladder(14) + ")", api.ErrParen, 14 + 1 + 14*5},
		{"500 sets", strings.Repeat("a", 500), api.OK, 0}, {"501 sets", strings.Repeat("a", 501), api.ErrMany, 0}, {"500 by counts", "(a{50}){10}", api.OK, 0}, {"501 by counts", "(a{50}){10}b", api.ErrMany, 0}, {"1600 by counts", "((a){40}){40}", api.ErrMany, 0},
		{"2000 leaves", "(" + strings.Repeat("|", 9) + "){200}", api.OK, 0}, {"2001 leaves", "(" + strings.Repeat("|", 9) + "){200}()", api.ErrMany, 0}, {"255 to the 40", nest(40, "a{255}")[:40] + "a{255}" + strings.Repeat("){255}", 40), api.ErrDeep, 0}, {"255 to the 38", strings.Repeat("(", 38) + "()" + strings.Repeat("){255}", 38), api.ErrMany, 0},
		{"many sets that are none", "(" + strings.Repeat("a", 600) + "){0}", api.OK, 0}, {"many sets and nothing else", "(" + strings.Repeat("a", 600) + "){1}", api.ErrMany, 0},
	} {
		r, e, at := Parse(x.text)
		if e != x.want || at != x.at || e == api.OK != (r.Kind != 0) || e != api.OK && !plainSame(r, api.Regex{}) {
			t.Errorf("Parse of %s: %v, %d, want %v, %d", x.name, e, at, x.want, x.at)
		}
		if len(x.text) < 2000 {
			checkText(t, x.text)
		}
	}
}

func TestParseAllShortTexts(t *testing.T) { // 8.1, 8.5, 8.6
	for bytes, most := range map[string]int{"a()|*": 6, "a^$|*(": 5, "[]^-ab": 6, `[]^-a\d`: 5, "a{0,25}": 6, `\x4g[]-`: 5, `a.\n(|)?+{1}`: 4, `[-\dxAF]`: 5} {
		allTexts(bytes, most, func(text string) { checkText(t, text) })
	}
}

func TestParseEachEscape(t *testing.T) { // 8.1
	for b := range 256 {
		text := `\` + string([]byte{byte(b)})
		for _, text := range []string{text, text + "41", text + "g1", "[" + text + "]", "[" + text + "-~]", "[ -" + text + "]", "[^" + text + "41]", "(" + text + ")*"} {
			checkText(t, text)
		}
		for c := range 256 {
			checkText(t, `\x`+string([]byte{byte(b), byte(c)}))
		}
	}
}

func TestParseEachByte(t *testing.T) { // 8.1
	for b := range 256 {
		text := string([]byte{byte(b)})
		for _, text := range []string{text, text + "*", "a" + text, "a" + text + "b", "(" + text + ")", "[" + text + "]", "[a" + text + "]", "[^" + text + "]", "[ -" + text + "]", "[" + text + "-~]", "a{" + text + "}", "a{1" + text + "2}"} {
			checkText(t, text)
		}
	}
}

func TestParseEachCount(t *testing.T) { // 8.1
	for _, low := range []string{"", "0", "1", "2", "9", "10", "99", "100", "199", "249", "250", "254", "255", "256", "300", "999", "1000", "00", "007", "4294967296"} {
		for _, high := range []string{"}", ",}", ",0}", ",1}", ",2}", ",10}", ",254}", ",255}", ",256}", ",0255}", ",4294967297}", ",18446744073709551615}", ",-1}", ",,}", "", ","} {
			checkText(t, "a{"+low+high)
			checkText(t, "(a|){"+low+high+"b")
		}
	}
}

func TestParseRandomTexts(t *testing.T) { // 8.1, 8.5, 8.6, T4
	r := rand.New(rand.NewSource(1))
	for _, bytes := range []string{`ab()|*+?`, `ab()|*+?{12,}[]^-$.\dnx4`, "a\\x00ff[]-\xff\x00\n", `()|`, `[ab-c]`, `(a{2})|`} {
		for range 6000 {
			checkText(t, randomText(r, bytes, r.Intn(24)))
		}
	}
	for range 3000 {
		b := make([]byte, r.Intn(12))
		r.Read(b)
		checkText(t, string(b))
	}
}

// Texts that are read, with one byte of them another one, left out or put in.
func TestParseAlmostRight(t *testing.T) { // 8.1
	r := rand.New(rand.NewSource(2))
	const bytes = "ab()|*+?{1,}[]^-$.\\dx"
	for range 1000 {
		text := plainText(randomTree(r, 4, false))
		if len(text) > 60 {
			continue
		}
		checkText(t, text)
		for range 8 {
			k := r.Intn(len(text) + 1)
			put := string(bytes[r.Intn(len(bytes))])
			checkText(t, text[:k]+put+text[k:])
			checkText(t, text[:k]+text[min(k+1, len(text)):])
			checkText(t, text[:k]+put+text[min(k+1, len(text)):])
			checkText(t, text[:k])
		}
	}
}

func TestParseIsNewMemory(t *testing.T) { // P3
	const text = "(a|b)c|(a|b)c|de*"
	one, _, _ := Parse(text)
	two, _, _ := Parse(text)
	spoil(&one)
	if again, _, _ := Parse(text); !plainSame(two, again) {
		t.Errorf("two answers share memory")
	}
	one, _, _ = Parse(text)
	_ = append(one.Kids[0].Kids, empty, empty, empty)
	_ = append(one.Kids[0].Kids[0].Kids, empty, empty, empty)
	_ = append(one.Kids, empty, empty, empty)
	spoil(&one.Kids[0])
	if !plainSame(one.Kids[1], two.Kids[1]) || !plainSame(one.Kids[2], two.Kids[2]) {
		t.Errorf("two lists of an answer share memory")
	}
}

// spoil writes into each list of a tree.
func spoil(r *api.Regex) {
	for k := range r.Kids {
		spoil(&r.Kids[k])
		r.Kids[k] = api.Regex{Kind: 99}
	}
}
