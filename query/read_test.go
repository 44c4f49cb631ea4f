package query

import (
	"math/rand"
	"strings"
	"testing"

	"dragnet/api"
)

func TestParseExamples(t *testing.T) { // 15.1, 15.2
	for s, want := range map[string]struct {
		q     api.Query
		print string
	}{
		`error -"GET /x" status>=500`: {whole(and(word("error"), not(exact("GET /x")), field("status", api.OpLeast, "500"))), `error not "GET /x" status>=500`},
		"a or b c":                    {whole(or(word("a"), and(word("b"), word("c")))), "a or b c"},
		"(a or b) c":                  {whole(and(or(word("a"), word("b")), word("c"))), "(a or b) c"},
		"a (b c)":                     {whole(and(word("a"), and(word("b"), word("c")))), "a (b c)"},
		"[2026-11-15T12:00:00Z..] *":  {api.Query{From: 1794744000000, To: ever, Expr: api.Expr{Kind: api.ExAll}}, "[2026-11-15T12:00:00.000Z..] *"},
		"[..]a":                       {whole(word("a")), "a"},
		`x=""`:                        {whole(field("x", api.OpIs, "")), `x=""`},
	} {
		q, e, at := Parse(s)
		if !plainSameQuery(q, want.q) || e != api.OK || at != 0 {
			t.Errorf("Parse(%q): %v, %d, %d, want %v", s, q, e, at, want.q)
		}
		if text, e := Print(q); text != want.print || e != api.OK {
			t.Errorf("Print of what is read of %q: %q, %d, want %q", s, text, e, want.print)
		}
		holdsParse(t, s)
	}
}

// wrongAt is a text, why it is refused, and where.
type wrongAt struct {
	s  string
	e  api.Errno
	at int
}

func holdsWrong(t *testing.T, list []wrongAt) {
	t.Helper()
	for _, c := range list {
		if q, e, at := Parse(c.s); !plainSameQuery(q, api.Query{}) || e != c.e || at != c.at {
			t.Errorf("Parse(%.80q): %v, %d, %d, want %d, %d", c.s, q, e, at, c.e, c.at)
		}
		if len(c.s) < 4000 {
			holdsParse(t, c.s)
		}
	}
}

func TestParseWrongWords(t *testing.T) { // 15.1
	w257 := strings.Repeat("w", 257)
	holdsWrong(t, []wrongAt{
		{"", api.ErrWord, 0}, {"  ", api.ErrWord, 2}, {"a or", api.ErrWord, 4}, {"a or ", api.ErrWord, 5}, {"or a", api.ErrWord, 0}, {"and a", api.ErrWord, 0}, {"a or or b", api.ErrWord, 5}, {"a and or b", api.ErrWord, 6}, {"a or and b", api.ErrWord, 5}, {"a and and b", api.ErrWord, 6}, {"a and", api.ErrWord, 5}, {"not", api.ErrWord, 3}, {"-", api.ErrWord, 1}, {"- -", api.ErrWord, 3}, {"not or", api.ErrWord, 4}, {"-and", api.ErrWord, 1}, {"a not", api.ErrWord, 5},
		{"(a", api.ErrWord, 2}, {"((a)", api.ErrWord, 4}, {"(", api.ErrWord, 1}, {"a)", api.ErrWord, 1}, {"(a))", api.ErrWord, 3}, {")", api.ErrWord, 0}, {"()", api.ErrWord, 1}, {"(a or)", api.ErrWord, 5}, {"(a and)", api.ErrWord, 6}, {"(or a)", api.ErrWord, 1}, {"not)", api.ErrWord, 3}, {"(-)", api.ErrWord, 2}, {"a )b", api.ErrWord, 2}, {"a(and)", api.ErrWord, 2},
		{"a*", api.ErrWord, 1}, {"*a", api.ErrWord, 1}, {"**", api.ErrWord, 1}, {"*-a", api.ErrWord, 1}, {`"a"b`, api.ErrWord, 3}, {`"a"ib`, api.ErrWord, 4}, {`"a"ii`, api.ErrWord, 4}, {`"a""b"`, api.ErrWord, 3}, {`"a"/b/`, api.ErrWord, 3}, {`a"b"`, api.ErrWord, 1}, {"/a/b", api.ErrWord, 3}, {"/a/i/", api.ErrWord, 4}, {"/a/I", api.ErrWord, 3}, {"/a/*", api.ErrWord, 3}, {"a or*", api.ErrWord, 4}, {`not"a"`, api.ErrWord, 3}, {"not*", api.ErrWord, 3}, {`a and"b"`, api.ErrWord, 5}, {"x=1|", api.ErrWord, 3}, {`x=1"`, api.ErrWord, 3}, {"x=1=2", api.ErrWord, 3}, {`x="a"i`, api.ErrWord, 5}, {`x="a"b`, api.ErrWord, 5}, {`x=""=`, api.ErrWord, 4},
		{`""`, api.ErrWord, 0}, {`a ""`, api.ErrWord, 2}, {`""i`, api.ErrWord, 0}, {`""b`, api.ErrWord, 0}, {"a|b", api.ErrWord, 1}, {"|", api.ErrWord, 0}, {"a |b", api.ErrWord, 2}, {"=a", api.ErrWord, 0}, {"a =1", api.ErrWord, 2}, {"!a", api.ErrWord, 0}, {"<", api.ErrWord, 0}, {">", api.ErrWord, 0}, {"~", api.ErrWord, 0}, {"a\tb", api.ErrWord, 1}, {"\ta", api.ErrWord, 0}, {"a\nb", api.ErrWord, 1}, {"a\x7f", api.ErrWord, 1}, {"\x00", api.ErrWord, 0}, {"a [..]", api.ErrWord, 2}, {"[..][..]a", api.ErrWord, 4}, {"([..]a)", api.ErrWord, 1}, {"-[..]", api.ErrWord, 1}, {"a [x", api.ErrWord, 2}, {"[..]", api.ErrWord, 4}, {"[..]  ", api.ErrWord, 6},
		{w257, api.ErrWord, 0}, {"a " + w257, api.ErrWord, 2}, {w257 + "|", api.ErrWord, 0}, {w257 + "*", api.ErrWord, 0}, {"or|", api.ErrWord, 0}, {"a or|", api.ErrWord, 4}, {`"` + w257 + `"`, api.ErrWord, 0}, {`a "` + w257 + `"x`, api.ErrWord, 2}, {`"` + strings.Repeat(`\x00`, 257) + `"`, api.ErrWord, 0},
	})
}

func TestParseWrongTerms(t *testing.T) { // 15.1
	v257 := strings.Repeat("v", 257)
	holdsWrong(t, []wrongAt{
		{`"a`, api.ErrQuote, 2}, {`"`, api.ErrQuote, 1}, {`("a`, api.ErrQuote, 3}, {`"a\"`, api.ErrQuote, 4}, {`"\q"`, api.ErrQuote, 1}, {`"\X41"`, api.ErrQuote, 1}, {`"\x4"`, api.ErrQuote, 1}, {`"\x4g"`, api.ErrQuote, 1}, {`"\xg4"`, api.ErrQuote, 1}, {`"\x4a"`, api.ErrQuote, 1}, {`"\xa4"`, api.ErrQuote, 1}, {`"\x@0"`, api.ErrQuote, 1}, {`"\x:0"`, api.ErrQuote, 1}, {`"\xG0"`, api.ErrQuote, 1}, {`"\n"`, api.ErrQuote, 1}, {`"\/"`, api.ErrQuote, 1}, {`"ab\`, api.ErrQuote, 3}, {`"ab\x`, api.ErrQuote, 3}, {`"ab\x4`, api.ErrQuote, 3}, {`"ab\x41`, api.ErrQuote, 7}, {`"\\`, api.ErrQuote, 3}, {"\"a\nb\"", api.ErrQuote, 2}, {"\"\x1f\"", api.ErrQuote, 1}, {"\"\x7f\"", api.ErrQuote, 1}, {"\"a\x00", api.ErrQuote, 2}, {"\"a\tb\\q", api.ErrQuote, 2}, {`"\q` + v257 + `"x`, api.ErrQuote, 1}, {`"` + v257, api.ErrQuote, 258},
		{`x="`, api.ErrQuote, 3}, {`x="a`, api.ErrQuote, 4}, {`x="\q"`, api.ErrQuote, 3}, {`x="\x4`, api.ErrQuote, 3}, {"x=\"a\n\"", api.ErrQuote, 4}, {`x="` + v257, api.ErrQuote, 260},
		{"/a(/", api.ErrRegex, 3}, {"/a", api.ErrRegex, 2}, {"/", api.ErrRegex, 1}, {"(/a", api.ErrRegex, 3}, {`/a\/`, api.ErrRegex, 4}, {`/a\`, api.ErrRegex, 3}, {"/**", api.ErrRegex, 3}, {"b /a**/", api.ErrRegex, 5}, {"/[/]/", api.ErrRegex, 2}, {"/a)/x", api.ErrRegex, 2}, {`/\q/`, api.ErrRegex, 1}, {"/((a){40}){40}/", api.ErrRegex, 1}, {"/[^a-z]^/", api.ErrRegex, 7}, {"/" + strings.Repeat("a", 1025) + "/", api.ErrRegex, 1}, {"/" + strings.Repeat("a", 1100) + "(/x", api.ErrRegex, 1}, {"b /" + strings.Repeat("(", 41) + "/", api.ErrRegex, 43}, {"/a{2/i", api.ErrRegex, 2},
		{"9x=1", api.ErrField, 0}, {"a 9x=1", api.ErrField, 2}, {"]=1", api.ErrField, 0}, {"x/y=1", api.ErrField, 0}, {"\xe9=1", api.ErrField, 0}, {".x=1", api.ErrField, 0}, {"n" + strings.Repeat("9", 64) + "=1", api.ErrField, 0}, {v257 + "=1", api.ErrField, 0}, {"9x!1", api.ErrField, 0}, {"9x=", api.ErrField, 0}, {`9x="`, api.ErrField, 0},
		{"x=", api.ErrField, 2}, {"x!1", api.ErrField, 1}, {"x!", api.ErrField, 1}, {"x! =1", api.ErrField, 1}, {"x!~1", api.ErrField, 1}, {"or!b", api.ErrField, 2}, {"a or!b", api.ErrField, 4}, {"x!=", api.ErrField, 3}, {"x<=", api.ErrField, 3}, {"x>= 5", api.ErrField, 3}, {"x<", api.ErrField, 2}, {"x<>1", api.ErrField, 2}, {"x==1", api.ErrField, 2}, {"x~=1", api.ErrField, 2}, {"x=<1", api.ErrField, 2}, {"x=!1", api.ErrField, 2}, {"x=|", api.ErrField, 2}, {"x=*", api.ErrField, 2}, {"x= 1", api.ErrField, 2}, {"x=(1)", api.ErrField, 2}, {"(x=)", api.ErrField, 3}, {"(x=", api.ErrField, 3}, {"x=\t", api.ErrField, 2},
		{"x=" + v257, api.ErrField, 2}, {"x<=" + v257 + "|", api.ErrField, 3}, {`x="` + v257 + `"`, api.ErrField, 2}, {`x!="` + v257 + `"i`, api.ErrField, 3},
	})
}

func TestParseWrongRanges(t *testing.T) { // 15.1
	one, two := "1970-01-01T00:00:01Z", "1970-01-01T00:00:02Z"
	holdsWrong(t, []wrongAt{
		{"[x..] a", api.ErrRange, 0}, {"[..x] a", api.ErrRange, 0}, {" [..", api.ErrRange, 1}, {"[", api.ErrRange, 0}, {"  [] a", api.ErrRange, 2}, {"[.] a", api.ErrRange, 0}, {"[...] a", api.ErrRange, 0}, {"[....] a", api.ErrRange, 0}, {"[ ..] a", api.ErrRange, 0}, {"[.. ] a", api.ErrRange, 0}, {"[" + one + "] a", api.ErrRange, 0}, {"[" + one + ".." + two, api.ErrRange, 0}, {"[" + two + ".." + one + "] a", api.ErrRange, 0}, {"[" + one + ".." + two + ".." + two + "] a", api.ErrRange, 0}, {"[" + one + ".." + two + "]", api.ErrWord, 44}, {"[" + one + "..1970-01-01T00:00:00.999Z] a", api.ErrRange, 0}, {"[1969-12-31T23:59:59Z..] a", api.ErrRange, 0}, {"[..10000-01-01T00:00:00Z] a", api.ErrRange, 0}, {"[2026-02-29T00:00:00Z..] a", api.ErrRange, 0}, {"[0..1000] a", api.ErrRange, 0}, {"[x..] |", api.ErrRange, 0}, {"[..]|", api.ErrWord, 4}, {"|[x", api.ErrWord, 0},
	})
	for s, want := range map[string]api.Query{
		"[" + one + ".." + two + "]a":                   {From: 1000, To: 2000, Expr: word("a")},
		" [" + one + ".." + one + "] a":                 {From: 1000, To: 1000, Expr: word("a")},
		"[..1970-01-01T00:00:00Z](a)":                   {Expr: word("a")},
		"[1970-01-01T00:00:00Z..]\"a\"":                 {To: ever, Expr: exact("a")},
		"[9999-12-31T23:59:59.999Z..]-a":                {From: ever - 1, To: ever, Expr: not(word("a"))},
		"[..9999-12-31T23:59:59.999Z]/a/":               {To: ever - 1, Expr: regex("a")},
		"[1970-01-01T01:00:01+01:00..]x=1":              {From: 1000, To: ever, Expr: field("x", api.OpIs, "1")},
		"[" + one + ".." + one + "]]":                   {From: 1000, To: 1000, Expr: word("]")},
		"[..]" + "not a":                                whole(not(word("a"))),
		"[1970-01-01T00:00:01.500Z.." + two + "]*":      {From: 1500, To: 2000, Expr: api.Expr{Kind: api.ExAll}},
		"[2026-11-15T12:00:00Z..2026-11-15T12:00:00Z]*": {From: 1794744000000, To: 1794744000000, Expr: api.Expr{Kind: api.ExAll}},
	} {
		if q, e, at := Parse(s); !plainSameQuery(q, want) || e != api.OK || at != 0 {
			t.Errorf("Parse(%q): %v, %d, %d, want %v", s, q, e, at, want)
		}
		holdsParse(t, s)
	}
}

func TestParseTrees(t *testing.T) { // 15.1
	a, b, c := word("a"), word("b"), word("c")
	star := api.Expr{Kind: api.ExAll}
	for s, want := range map[string]api.Expr{
		"a": a, "*": star, "((a))": a, " a ": a, "(*)": star, "(a)(b)": and(a, b), "a(b)c": and(a, b, c), "*(*)": and(star, star), "a and b": and(a, b), "a and b c": and(a, b, c), "(a)and(b)or(c)": or(and(a, b), c), "(a)-b": and(a, not(b)), "(a)*": and(a, star), `(a)"b"`: and(a, exact("b")), "(a)/b/": and(a, regex("b")),
		"a or b or c": or(a, b, c), "(a or b) or c": or(or(a, b), c), "a or (b or c)": or(a, or(b, c)), "a b or b c": or(and(a, b), and(b, c)), "a and b or c and a": or(and(a, b), and(c, a)), "a (b or c)": and(a, or(b, c)), "((a b) c)": and(and(a, b), c), "(((a) b))": and(a, b),
		"not a": not(a), "-a": not(a), "- a": not(a), "--a": not(not(a)), "not not a": not(not(a)), "-not -a": not(not(not(a))), "not a b": and(not(a), b), "not (a b)": not(and(a, b)), "not(a)b": and(not(a), b), "-(a or b)": not(or(a, b)), "a or not b": or(a, not(b)), "a and -b": and(a, not(b)), "not a or b": or(not(a), b), "-*": not(star), "not *": not(star), "a -b": and(a, not(b)),
		"a-b": word("a-b"), "not-a": word("not-a"), "a/b/": word("a/b/"), "a[b]": word("a[b]"), "]": word("]"), "]a[": word("]a["), `\`: word(`\`), `a\x41`: word(`a\x41`), "{a}": word("{a}"), "OR": word("OR"), "Not": word("Not"), "andor": word("andor"), "or.": word("or."), "a;b,c:d": word("a;b,c:d"), "\x80\xff\xe9": word("\x80\xff\xe9"), "#": word("#"), "'a'": word("'a'"), "i": word("i"), strings.Repeat("w", 256): word(strings.Repeat("w", 256)),
		"or=and": field("or", api.OpIs, "and"), "not!=not": field("not", api.OpNot, "not"), "a and=b": and(a, field("and", api.OpIs, "b")), "-or<1": not(field("or", api.OpBelow, "1")), "x=or": field("x", api.OpIs, "or"), "x>-5": field("x", api.OpAbove, "-5"), "x>=-": field("x", api.OpLeast, "-"), "x~/x": field("x", api.OpHas, "/x"), "x~/x/": field("x", api.OpHas, "/x/"), "x=[": field("x", api.OpIs, "["), "x<=[..]": field("x", api.OpMost, "[..]"), "x=i": field("x", api.OpIs, "i"), "x=\xff": field("x", api.OpIs, "\xff"), "a.b[0]-_<1.5": field("a.b[0]-_", api.OpBelow, "1.5"), "_=1(a)": and(field("_", api.OpIs, "1"), a), `x="\"\\ (|)="`: field("x", api.OpIs, `"\ (|)=`), `x=""(a)`: and(field("x", api.OpIs, ""), a), "x=" + strings.Repeat("v", 256): field("x", api.OpIs, strings.Repeat("v", 256)), `x="` + strings.Repeat(`\x00`, 256) + `"`: field("x", api.OpIs, strings.Repeat("\x00", 256)), "n" + strings.Repeat("9", 63) + "=1": field("n"+strings.Repeat("9", 63), api.OpIs, "1"),
		`"a"`: exact("a"), `"A"i`: word("A"), `"or"i`: word("or"), `"or" or "and"`: or(exact("or"), exact("and")), `" "`: exact(" "), `"(|)*-/[="`: exact("(|)*-/[="), `"\x00\x0A\xFF\x7F\x22\x5C"`: exact("\x00\n\xff\x7f\"\\"), `"\\"`: exact(`\`), `"\""`: exact(`"`), `"\\\""i`: word(`\"`), "\"\x80\xff~\"": exact("\x80\xff~"), `"` + strings.Repeat("w", 256) + `"`: exact(strings.Repeat("w", 256)), `"` + strings.Repeat(`\\`, 256) + `"i`: word(strings.Repeat(`\`, 256)),
		"/a/": regex("a"), "//": regex("()"), "/ /": regex(" "), "/()|a/": regex("()|a"), `/\//`: regex("/"), `/[\/]/`: regex("/"), `/[!-\/]/`: regex("[!-/]"), `/\x2F\x2f/`: regex("//"), `/\\\//`: regex(`\\/`), `/\d+"(x)|y"/`: regex(`[0-9]+"x|y"`), "/a\nb\x00/": regex(`a\nb\x00`), "/[ba]/": regex("[ab]"), "/(a)/": regex("a"), "/(ab)c/": regex("(ab)c"), "/^a$/ /[^a]/": and(regex("^a$"), regex("[^a]")), "/a/(b)": and(regex("a"), b), "-/a/": not(regex("a")), "/|/": regex("()|()"), "/i/": regex("i"),
		"/a/i": termOf(api.Term{Kind: api.TermRegex, Text: "a", Fold: true}), "//i": termOf(api.Term{Kind: api.TermRegex, Text: "()", Fold: true}), "/A/i (b)": and(termOf(api.Term{Kind: api.TermRegex, Text: "A", Fold: true}), b),
	} {
		if q, e, at := Parse(s); !plainSameQuery(q, whole(want)) || e != api.OK || at != 0 {
			t.Errorf("Parse(%.80q): %v, %d, %d, want %v", s, q, e, at, want)
		}
		holdsParse(t, s)
	}
}

func TestParseEachByte(t *testing.T) { // 15.1, 15.6
	for b := range 256 {
		c := string([]byte{byte(b)})
		for _, s := range []string{c, "a" + c, c + "a", "a" + c + "b", "a " + c + " b", `"` + c + `"`, `"\` + c + `"`, `"\x` + c + `0"`, `"\x0` + c + `"`, `"a"` + c, `"a"i` + c, "/" + c + "/", `/\` + c + "/", "/a/" + c, "/a/i" + c, "x" + c + "1", "x!" + c, "x<" + c + "1", "x=" + c, "x=1" + c, `x="` + c + `"`, `x="a"` + c, "[" + c + "..]a", "[.." + c + "]a", "[..]" + c, "*" + c, "-" + c, "(" + c + ")", "(a)" + c, "not" + c + "a", "a or" + c + "b", "a and " + c + "b"} {
			holdsParse(t, s)
		}
	}
}

func TestParseAllShort(t *testing.T) { // 15.1, 15.6
	for _, c := range []struct {
		pieces []string
		most   int
	}{
		{strings.Split(` a"()/-*[]|=!<~\ix.`, ""), 4},
		{strings.Split(`a"\x0iF|`, ""), 5},
		{strings.Split(`[].a |"`, ""), 6},
		{[]string{"a", "(", ")", "-", "*", " or ", " and ", " not ", "or", "=1"}, 5},
		{[]string{`"`, `"i`, "/", "/i", `\`, "a", " ", "x=", "x!", "|"}, 5},
	} {
		allTexts(c.pieces, c.most, func(s string) { holdsParse(t, s) })
	}
}

// textBy is a text of tokens, mostly such that can stand one behind the other.
func textBy(r *rand.Rand, tokens int) string {
	var b strings.Builder
	if r.Intn(4) == 0 {
		b.WriteString(pick(r, "[..]", "[2026-11-15T12:00:00Z..]", "[..2026-11-15T12:00:00.5Z]", " [1970-01-01T00:00:00Z..2026-11-15T12:00:00.250+01:30] ", "[2026-11-15T12:00:00Z..2025-11-15T12:00:00Z]", "[x]"))
	}
	open := 0
	for i := range tokens {
		if i > 0 {
			b.WriteString(pick(r, " ", " ", "  ", " or ", " and ", ""))
		}
		for r.Intn(4) == 0 {
			b.WriteString(pick(r, "not ", "-", "(", "(", "- "))
			open += strings.Count(b.String()[b.Len()-1:], "(")
		}
		b.WriteString(pick(r, "*", "a", "b", "error", "or", `"a b"`, `"a"i`, `"\x00\"|"`, "/a+/", `/\/|x/i`, "/(a|b)*c/", "x=1", `y!="a b"`, "z<-5", "z>=1.5", "a.b~q", "\xe9", `q=""`, word(anyBytes(r, "abc-/[]", 1+r.Intn(3))).Term.Text))
		for open > 0 && r.Intn(3) == 0 {
			b.WriteString(")")
			open--
		}
	}
	if r.Intn(8) > 0 {
		b.WriteString(strings.Repeat(")", open))
	}
	return b.String()
}

func TestParseByChance(t *testing.T) { // 15.1, 15.6, 15.7
	r := rand.New(rand.NewSource(151))
	counts := map[api.Errno]int{}
	for range 12000 {
		s := textBy(r, 1+r.Intn(8))
		if r.Intn(3) == 0 && len(s) > 0 {
			at := r.Intn(len(s))
			s = pick(r, s[:at], s[at:], s[:at]+s[at+1:], s[:at]+anyBytes(r, "", 1)+s[at:], s[:at]+anyBytes(r, ` "()/-*[]|=!<>~\ix`, 1)+s[at+1:], s[:at]+s[at:]+s[at:])
		}
		counts[holdsParse(t, s)]++
	}
	for range 12000 {
		counts[holdsParse(t, anyBytes(r, pick(r, "", ` ab"()/-*[]|=!<>~\ix.0`, ` a"\x`, " ()a-*", " /ab(|)i", "x=<>!~a1\" "), r.Intn(24)))]++
	}
	for _, e := range []api.Errno{api.OK, api.ErrWord, api.ErrQuote, api.ErrRegex, api.ErrField, api.ErrRange} {
		if counts[e] < 300 {
			t.Errorf("%d: %d times alone", e, counts[e])
		}
	}
}

func TestParseMany(t *testing.T) { // 15.1
	full := strings.Repeat("a ", 64)
	for _, last := range []string{"b", `"b"`, `""`, `"\q`, "/b/", "/(", "x=1", "9x=1", "x!", strings.Repeat("w", 257), "a"} {
		holdsWrong(t, []wrongAt{{full + last, api.ErrMany, 128}, {full + "or not (" + last, api.ErrMany, 136}})
	}
	holdsWrong(t, []wrongAt{{full + ")", api.ErrWord, 128}, {full + "or", api.ErrWord, 130}, {full + "|", api.ErrWord, 128}, {strings.Repeat("a ", 63) + `"b"c`, api.ErrWord, 129}})
	for _, s := range []string{full, full + "* *", full + "or *", strings.Repeat("a ", 63) + "x=1", strings.Repeat("-a or ", 63) + "/b/"} {
		if _, e, at := Parse(s); e != api.OK || at != 0 {
			t.Errorf("Parse(%.40q ..): %d, %d", s, e, at)
		}
		holdsParse(t, s)
	}
}

func TestParseDeep(t *testing.T) { // 15.1
	holdsWrong(t, []wrongAt{{strings.Repeat("not ", 40) + "a", api.ErrDeep, 0}, {strings.Repeat("-", 40) + "*", api.ErrDeep, 0}, {strings.Repeat("-", 2047) + "a", api.ErrDeep, 0}, {strings.Repeat("(a ", 40) + "b" + strings.Repeat(")", 40), api.ErrDeep, 0}, {strings.Repeat("-", 39) + "(a b)", api.ErrDeep, 0}, {"a " + strings.Repeat("-", 39) + "b", api.ErrDeep, 0}, {strings.Repeat("-", 41) + "|", api.ErrWord, 41}, {strings.Repeat("-", 600) + "9x=1", api.ErrField, 600}, {strings.Repeat("(", 1024) + "a" + strings.Repeat(")", 1022), api.ErrWord, 2047}, {strings.Repeat("(", 2048), api.ErrWord, 2048}})
	for _, s := range []string{strings.Repeat("not ", 39) + "a", strings.Repeat("(a ", 39) + "b" + strings.Repeat(")", 39), strings.Repeat("-", 38) + "(a b)", "a " + strings.Repeat("-", 38) + "b", strings.Repeat("(", 1023) + "a" + strings.Repeat(")", 1023), strings.Repeat("(-", 39) + "a" + strings.Repeat(")", 39)} {
		if e := holdsParse(t, s); e != api.OK {
			t.Errorf("Parse(%.40q ..): %d", s, e)
		}
	}
}

func TestParseLong(t *testing.T) { // 15.1
	blanks := strings.Repeat(" ", 2047)
	holdsWrong(t, []wrongAt{{blanks + " a", api.ErrQuery, 2048}, {strings.Repeat("|", 2049), api.ErrQuery, 2048}, {strings.Repeat("[", 100000), api.ErrQuery, 2048}, {strings.Repeat("|", 2048), api.ErrWord, 0}, {blanks + " ", api.ErrWord, 2048}})
	if q, e, at := Parse(blanks + "a"); !plainSameQuery(q, whole(word("a"))) || e != api.OK || at != 0 {
		t.Errorf("2048 bytes: %v, %d, %d", q, e, at)
	}
	for s, want := range map[string]api.Errno{ // what is written is longer than what was read
		strings.Repeat("-* ", 341):                                                                                   api.OK,       // 341 times `not *`, 340 blanks: 2045
		strings.Repeat("-* ", 342):                                                                                   api.ErrQuery, // 2051
		strings.Repeat("-* ", 341) + " (* *)":                                                                        api.ErrQuery, // 2051
		"[..1970-01-01T00:00:01Z]" + strings.Repeat("-* ", 335) + "* * * * *":                                        api.OK,       // 29, 335 times 6, 9: 2048
		"[..1970-01-01T00:00:01Z]" + strings.Repeat("-* ", 335) + "ab * * * *":                                       api.ErrQuery,
		"\"" + strings.Repeat("\x80", 250) + "\" \"" + strings.Repeat("\x80", 250) + "\"":                            api.OK, // 2005
		"\"" + strings.Repeat("\x80", 250) + "\" \"" + strings.Repeat("\x80", 250) + "\" " + strings.Repeat("w", 42): api.OK, // 2048
		"\"" + strings.Repeat("\x80", 250) + "\" \"" + strings.Repeat("\x80", 250) + "\" " + strings.Repeat("w", 43): api.ErrQuery,
		"\"" + strings.Repeat("\x80", 256) + "\" \"" + strings.Repeat("\x80", 256) + "\"":                            api.ErrQuery,
		strings.Repeat("-", 41) + strings.Repeat("\""+strings.Repeat("\x80", 250)+"\" ", 3):                          api.ErrDeep,
		`/` + strings.Repeat(`\d`, 200) + `/ /` + strings.Repeat(`\d`, 200) + "/":                                    api.OK,       // 2005
		`/` + strings.Repeat(`\d`, 200) + `/ /` + strings.Repeat(`\d`, 200) + "/ " + strings.Repeat("w", 43):         api.ErrQuery, // 2049
	} {
		if e := holdsParse(t, s); e != want {
			t.Errorf("Parse(%.40q ..): %d, want %d", s, e, want)
		}
	}
}

func TestParseRegexLong(t *testing.T) { // 15.1
	between := func(s string) string { return "/" + s + "/" }
	for s, want := range map[string]api.Errno{
		between(strings.Repeat("()", 512)):                            api.OK, // 1024 bytes as it is, and as it is written
		between(strings.Repeat(".", 500)):                             api.OK,
		between(strings.Repeat(".", 501)):                             api.ErrRegex, // too many sets
		between(strings.Repeat(`\d`, 204)):                            api.OK,       // 1020 bytes
		between(strings.Repeat(`\d`, 204) + "abcd"):                   api.OK,
		between(strings.Repeat(`\d`, 204) + "abcde"):                  api.ErrRegex, // syntax.Print refuses it
		between(strings.Repeat(`\d`, 204) + `ab\/`):                   api.OK,       // 1023 bytes, and a slash's backslash
		between(strings.Repeat(`\d`, 204) + `abc\/`):                  api.ErrRegex, // syntax.Print writes 1024 bytes
		between(strings.Repeat(`\/`, 499)):                            api.OK,
		between(strings.Repeat(`[\/]`, 255) + `\d`):                   api.OK,
		between(strings.Repeat(`\/`, 255) + `[\/a]` + `\d`):           api.OK,
		between(strings.Repeat(`\d`, 200) + strings.Repeat(`\/`, 12)): api.OK,       // 1024
		between(strings.Repeat(`\d`, 200) + strings.Repeat(`\/`, 13)): api.ErrRegex, // 1026
	} {
		if e := holdsParse(t, s); e != want {
			t.Errorf("Parse(%.40q ..), %d bytes: %d, want %d", s, len(s), e, want)
		}
		if _, e, at := Parse("a " + s); want != api.OK && (e != want || at != 3) {
			t.Errorf("Parse(\"a %.40q ..): %d, %d", s, e, at)
		}
	}
}

func TestParseBlanks(t *testing.T) { // 15.7
	r := rand.New(rand.NewSource(157))
	read := 0
	for range 6000 {
		s := textBy(r, 1+r.Intn(6))
		q, e, _ := Parse(s)
		if e != api.OK {
			continue
		}
		read++
		var b strings.Builder
		for _, piece := range plainCut(s) {
			b.WriteString(strings.Repeat(" ", r.Intn(3)) + piece.text)
		}
		b.WriteString(strings.Repeat(" ", r.Intn(3)))
		if again, e, at := Parse(b.String()); e != api.OK || at != 0 || !plainSameQuery(q, again) {
			t.Fatalf("Parse(%q): %v, %d, %d, but of %q %v", b.String(), again, e, at, s, q)
		}
	}
	if read < 1000 {
		t.Errorf("%d are read", read)
	}
}

func TestParsedTextsAreNew(t *testing.T) { // P3
	s := strings.Clone(`abc "def" "ghi"i /klm/ nop=qrs tuv="wxy"`)
	q, e, _ := Parse(s)
	if e != api.OK || len(Terms(q)) != 6 {
		t.Fatalf("%v, %d", q, e)
	}
	for _, kid := range q.Expr.Kids {
		if isWithin(kid.Term.Text, s) || isWithin(kid.Term.Name, s) {
			t.Errorf("the texts of %v are those of what was read", kid.Term)
		}
	}
}

func TestSplit(t *testing.T) { // 15.6
	for s, want := range map[string]int{
		`a "|" | count`: 6, "/|/ b": 5, "x=/|": 3, "[..]/x|y/": 9, "": 0, "a": 1, "|": 0, "||": 0, "a|b": 1, " | ": 1,
		`"|"`: 3, `"|"|`: 3, `"|"i|`: 4, `"\"|"|`: 5, `"\\"|"`: 4, `"|`: 2, `"|\`: 3, `"a\"|`: 5, `""|`: 2, `"\q|"|`: 5, "\"\n|\"|": 4,
		"/|/|": 3, "/|/i|": 4, `/\/|/|`: 5, `/\\/|/`: 4, "/|": 2, `/\`: 2, "/(|": 3, "a/|/": 2, "-/|/|": 4, "(/|/)|": 5, "*/|/|": 4, "a /|/|": 5, "]/|/": 2,
		"[|]|": 3, "[|": 2, " [a|b]c|d": 7, "a [|": 3, "=[|]|": 4, "![|]|": 4, "\t[|]|": 4, "-[|]|": 2, "([|]|": 2, "[..][|": 5, `"a"[|`: 4, "*[|]": 2, "a[|]": 2, "x=[|]": 3, "x![|]": 3, `[a"]|"`: 4, "[a/]|/": 4, "[a\"|": 4,
		`x="|"|`: 5, `x="|`: 4, `x="\"|"|`: 7, `x!="|"|`: 6, `x<"|"|`: 5, `x<="|"|`: 6, `x>"|"|`: 5, `x>="|"|`: 6, `x~"|"|`: 5, `x="a"i/|/`: 7, `"a"i/|/`: 7, `x="a"/|/|`: 8, "x=|": 2, "x= /|/|": 6, "x=(/|/|": 6, "x=a/|/": 4, "x=*/|/|": 6, `x=="|"|`: 6, "x==/|/|": 6, `9x="|"|`: 6, `x=""|`: 4,
		"x!/|/": 5, "x!|": 2, `x!"|"|`: 5, "x!a/|/": 4, "x! =/|/|": 7, "x!": 2, "x!!/|/|": 6, "x!=/|": 4, "!/|/|": 4, "!=/|/|": 5, "=/|/|": 4, "</|/|": 4, "~\"|\"|": 4, "\x00/|/|": 4, "\x7f\"|\"|": 4,
		`a"|"|`: 4, "a or | b": 5, `"a"b"|"|`: 7, "a or/|/": 5, strings.Repeat("a ", 5000) + "|": 10000, strings.Repeat("(", 100000): 100000, strings.Repeat(`"`, 100000) + "|": 100000, strings.Repeat("x!", 50000) + "|": 100000,
	} {
		if n := Split(s); n != want {
			t.Errorf("Split(%.80q): %d, want %d", s, n, want)
		}
		if len(s) < 1000 {
			holdsParse(t, s)
		}
	}
}
