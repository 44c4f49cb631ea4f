package query

import (
	"math/rand"
	"slices"
	"strings"
	"testing"

	"dragnet/api"
)

// wrongQuery is a query, and why it may not be.
type wrongQuery struct {
	q api.Query
	e api.Errno
}

func holdsRight(t *testing.T, list []wrongQuery) {
	t.Helper()
	for i, c := range list {
		if e := Right(c.q); e != c.e {
			t.Errorf("Right of number %d, %.200v: %d, want %d", i, c.q, e, c.e)
		}
		s, e := Print(c.q)
		if e != c.e || (s == "") != (e != api.OK) {
			t.Errorf("Print of number %d, %.200v: %q, %d, want %d", i, c.q, s, e, c.e)
		}
		holdsQuery(t, c.q)
	}
}

func TestRightRange(t *testing.T) { // 15.3
	a := word("a")
	holdsRight(t, []wrongQuery{
		{api.Query{To: ever, Expr: a}, api.OK}, {api.Query{Expr: a}, api.OK}, {api.Query{From: ever - 1, To: ever, Expr: a}, api.OK}, {api.Query{From: ever - 1, To: ever - 1, Expr: a}, api.OK}, {api.Query{From: 5, To: 5, Expr: a}, api.OK},
		{api.Query{From: -1, To: ever, Expr: a}, api.ErrRange}, {api.Query{From: ever, To: ever, Expr: a}, api.ErrRange}, {api.Query{From: -1 << 63, To: ever, Expr: a}, api.ErrRange}, {api.Query{From: 1<<63 - 1, To: 1<<63 - 1, Expr: a}, api.ErrRange}, {api.Query{To: ever + 1, Expr: a}, api.ErrRange}, {api.Query{To: 1<<63 - 1, Expr: a}, api.ErrRange}, {api.Query{From: 2, To: 1, Expr: a}, api.ErrRange}, {api.Query{To: -1, Expr: a}, api.ErrRange}, {api.Query{From: -2, To: -1, Expr: a}, api.ErrRange}, {api.Query{To: -1 << 63, Expr: a}, api.ErrRange},
		{api.Query{From: 1}, api.ErrRange}, {api.Query{From: 2, To: 1, Expr: nots(a, 60)}, api.ErrRange}, {api.Query{}, api.ErrQuery},
	})
}

func TestRightNodes(t *testing.T) { // 15.3
	a, star := word("a"), api.Expr{Kind: api.ExAll}
	list := []wrongQuery{{whole(star), api.OK}, {whole(a), api.OK}, {whole(not(a)), api.OK}, {whole(and(a, a)), api.OK}, {whole(or(a, star, a)), api.OK}}
	for kind := -2; kind <= 8; kind++ {
		for kids := range 4 {
			for _, term := range []api.Term{{}, a.Term, {Fold: true}, {Kind: 9}, {Name: "x"}, {Op: 1}, {Text: "x"}} {
				x := api.Expr{Kind: kind, Kids: times(a, kids), Term: term}
				right := term == api.Term{} && (kind == 1 && kids == 0 || kind == 3 && kids == 1 || kind >= 4 && kind <= 5 && kids >= 2) || kind == 2 && kids == 0 && term == a.Term
				if right {
					list = append(list, wrongQuery{whole(x), api.OK}, wrongQuery{whole(not(x)), api.OK})
				} else {
					list = append(list, wrongQuery{whole(x), api.ErrQuery}, wrongQuery{whole(not(x)), api.ErrQuery}, wrongQuery{whole(and(a, or(star, x))), api.ErrQuery})
				}
			}
		}
	}
	holdsRight(t, list)
	holdsRight(t, []wrongQuery{ // the first node that is wrong, in order
		{whole(and(exact(""), field("9", 1, ""))), api.ErrWord}, {whole(and(field("9", 1, ""), exact(""))), api.ErrField}, {whole(or(not(regex("(")), exact(""))), api.ErrRegex}, {whole(or(and(a, regex("(")), api.Expr{})), api.ErrRegex}, {whole(or(api.Expr{}, regex("("))), api.ErrQuery}, {whole(api.Expr{Kind: api.ExNot, Kids: []api.Expr{exact(""), a}}), api.ErrQuery},
		{api.Query{To: ever, Expr: api.Expr{Kind: api.ExAll, Kids: []api.Expr{}}}, api.OK},
	})
}

func TestRightTerms(t *testing.T) { // 15.3
	long := strings.Repeat("w", 256)
	digits := strings.Repeat("[0-9]", 200)
	var list []wrongQuery
	for _, c := range []struct {
		t api.Term
		e api.Errno
	}{
		{api.Term{}, api.ErrQuery}, {api.Term{Kind: -1, Text: "a"}, api.ErrQuery}, {api.Term{Kind: 4, Text: "a"}, api.ErrQuery}, {api.Term{Text: "a", Fold: true}, api.ErrQuery},
		{api.Term{Kind: 1, Text: "a"}, api.OK}, {api.Term{Kind: 1, Text: "a", Fold: true}, api.OK}, {api.Term{Kind: 1}, api.ErrWord}, {api.Term{Kind: 1, Fold: true}, api.ErrWord}, {api.Term{Kind: 1, Text: long}, api.OK}, {api.Term{Kind: 1, Text: long + "w"}, api.ErrWord}, {api.Term{Kind: 1, Text: long + "w", Fold: true}, api.ErrWord}, {api.Term{Kind: 1, Text: "a", Name: "x"}, api.ErrQuery}, {api.Term{Kind: 1, Text: "a", Op: 1}, api.ErrQuery}, {api.Term{Kind: 1, Text: "a", Op: -1}, api.ErrQuery}, {api.Term{Kind: 1, Op: 1}, api.ErrQuery}, {api.Term{Kind: 1, Text: strings.Repeat("w", 1<<20)}, api.ErrWord}, {api.Term{Kind: 1, Text: "\x00\n\xff\""}, api.OK},
		{api.Term{Kind: 2, Text: "a"}, api.OK}, {api.Term{Kind: 2, Text: "a", Fold: true}, api.OK}, {api.Term{Kind: 2, Text: "()"}, api.OK}, {api.Term{Kind: 2}, api.ErrRegex}, {api.Term{Kind: 2, Text: "("}, api.ErrRegex}, {api.Term{Kind: 2, Text: `\d`}, api.ErrRegex}, {api.Term{Kind: 2, Text: "(a)"}, api.ErrRegex}, {api.Term{Kind: 2, Text: "[a]"}, api.ErrRegex}, {api.Term{Kind: 2, Text: "a|"}, api.ErrRegex}, {api.Term{Kind: 2, Text: `\/`}, api.ErrRegex}, {api.Term{Kind: 2, Text: "\n"}, api.ErrRegex}, {api.Term{Kind: 2, Text: "/"}, api.OK}, {api.Term{Kind: 2, Text: "a", Name: "x"}, api.ErrQuery}, {api.Term{Kind: 2, Text: "(", Op: 3}, api.ErrQuery}, {api.Term{Kind: 2, Text: strings.Repeat("()", 512)}, api.OK}, {api.Term{Kind: 2, Text: strings.Repeat("()", 512) + "a"}, api.ErrRegex}, {api.Term{Kind: 2, Text: strings.Repeat("a", 1<<20)}, api.ErrRegex},
		{api.Term{Kind: 2, Text: digits + strings.Repeat("/", 12)}, api.OK}, {api.Term{Kind: 2, Text: digits + strings.Repeat("/", 13)}, api.ErrRegex}, {api.Term{Kind: 2, Text: digits + strings.Repeat("/", 11) + "ab"}, api.OK}, {api.Term{Kind: 2, Text: digits + strings.Repeat("/", 11) + "abc"}, api.ErrRegex}, {api.Term{Kind: 2, Text: strings.Repeat("/", 500)}, api.OK}, {api.Term{Kind: 2, Text: digits + `\\` + strings.Repeat("/", 11)}, api.OK}, {api.Term{Kind: 2, Text: digits + `\\a` + strings.Repeat("/", 11)}, api.ErrRegex},
		{api.Term{Kind: 3, Name: "x", Op: 1, Text: "a"}, api.OK}, {api.Term{Kind: 3, Name: "x", Op: 7}, api.OK}, {api.Term{Kind: 3, Op: 1}, api.ErrField}, {api.Term{Kind: 3, Name: "9", Op: 1}, api.ErrField}, {api.Term{Kind: 3, Name: "x y", Op: 1}, api.ErrField}, {api.Term{Kind: 3, Name: "x"}, api.ErrField}, {api.Term{Kind: 3, Name: "x", Op: -1}, api.ErrField}, {api.Term{Kind: 3, Name: "x", Op: 8}, api.ErrField}, {api.Term{Kind: 3, Name: "x", Op: 1, Text: long}, api.OK}, {api.Term{Kind: 3, Name: "x", Op: 1, Text: long + "w"}, api.ErrField}, {api.Term{Kind: 3, Name: "x", Op: 1, Fold: true}, api.ErrQuery}, {api.Term{Kind: 3, Fold: true}, api.ErrQuery}, {api.Term{Kind: 3, Name: "n" + long[:63], Op: 1}, api.OK}, {api.Term{Kind: 3, Name: "n" + long[:64], Op: 1}, api.ErrField},
	} {
		list = append(list, wrongQuery{whole(termOf(c.t)), c.e}, wrongQuery{whole(not(or(word("b"), termOf(c.t)))), c.e})
	}
	holdsRight(t, list)
}

func TestRightDeep(t *testing.T) { // 15.3
	a, wrong := word("a"), api.Expr{}
	double := a
	for range 100 {
		double = and(double, double)
	}
	round := make([]api.Expr, 1)
	round[0] = api.Expr{Kind: api.ExNot, Kids: round}
	wide := make([]api.Expr, 2)
	wide[0], wide[1] = api.Expr{Kind: api.ExOr, Kids: wide}, a
	holdsRight(t, []wrongQuery{
		{whole(nots(a, 39)), api.OK}, {whole(nots(a, 40)), api.ErrDeep}, {whole(nots(wrong, 39)), api.ErrQuery}, {whole(nots(wrong, 40)), api.ErrDeep}, {whole(nots(exact(""), 40)), api.ErrDeep}, {whole(nots(a, 5000)), api.ErrDeep}, {whole(and(a, nots(a, 38))), api.OK}, {whole(and(a, nots(a, 39))), api.ErrDeep}, {whole(and(nots(a, 39), wrong)), api.ErrDeep}, {whole(and(wrong, nots(a, 39))), api.ErrQuery},
	})
	for _, x := range []api.Expr{double, round[0], wide[0]} {
		q := whole(x)
		if s, e := Print(q); Right(q) != api.ErrDeep || s != "" || e != api.ErrDeep || Same(q, q) || len(Terms(q)) != 0 || !plainSameQuery(Plain(q), api.Query{}) {
			t.Errorf("of a tree without an end: %d, %q, %d", Right(q), s, e)
		}
	}
}

func TestRightMany(t *testing.T) { // 15.3
	a, star := word("a"), api.Expr{Kind: api.ExAll}
	holdsRight(t, []wrongQuery{
		{whole(or(times(a, 64)...)), api.OK}, {whole(or(times(a, 65)...)), api.ErrMany}, {whole(and(or(times(a, 40)...), or(times(a, 24)...))), api.OK}, {whole(and(or(times(a, 40)...), not(or(times(a, 25)...)))), api.ErrMany}, {whole(or(append(times(a, 64), star, star)...)), api.OK},
		{whole(or(append(times(a, 64), exact(""))...)), api.ErrMany}, {whole(or(append(times(a, 64), termOf(api.Term{}))...)), api.ErrMany}, {whole(or(append(times(a, 64), api.Expr{Kind: api.ExTerm, Term: a.Term, Kids: times(a, 1)})...)), api.ErrQuery}, {whole(or(append(times(a, 63), exact(""), a)...)), api.ErrWord}, {whole(or(append(times(a, 64), api.Expr{})...)), api.ErrQuery},
	})
	for _, c := range []struct {
		stars int
		last  api.Expr
		e     api.Errno
	}{ // with so many nodes it is too long as a text, which is told last
		{2046, exact(""), api.ErrWord}, {2047, exact(""), api.ErrQuery}, {2046, regex("("), api.ErrRegex}, {2047, regex("("), api.ErrQuery}, {2045, not(field("9", 1, "")), api.ErrField}, {2046, not(field("9", 1, "")), api.ErrQuery}, {2046, star, api.ErrQuery}, {5000, regex("("), api.ErrQuery}, {2009, nots(star, 39), api.ErrQuery}, {2008, nots(star, 39), api.ErrQuery}, {2007, nots(star, 39), api.ErrDeep}, {2010, nots(star, 38), api.ErrQuery}, {2009, nots(exact(""), 38), api.ErrQuery}, {2008, nots(exact(""), 38), api.ErrWord},
	} {
		q := whole(or(append(times(star, c.stars), c.last)...))
		if e := Right(q); e != c.e || e != plainRight(q) {
			t.Errorf("Right of %d stars and %v: %d, want %d", c.stars, c.last, e, c.e)
		}
	}
}

// padded is a tree that is written with so many bytes: so much, and words that fill it up.
func padded(t *testing.T, x api.Expr, bytes int) api.Query {
	t.Helper()
	kids := []api.Expr{x}
	for left := bytes - len(plainPrint(whole(and(x, word("w"))))) + 1; left > 0; {
		n := min(left, 256)
		if left == 257 { // a blank alone would be left
			n = 200
		}
		kids = append(kids, word(strings.Repeat("w", n)))
		left -= n + 1
	}
	q := whole(and(kids...))
	if len(plainPrint(q)) != bytes {
		t.Fatalf("%d bytes, not %d", len(plainPrint(q)), bytes)
	}
	return q
}

func TestRightLong(t *testing.T) { // 15.2, 15.3
	for _, x := range []api.Expr{word("a"), exact("a"), exact("\x00\x7f\xff\n"), exact(`\"\"`), word("or"), word("-a"), word("\xe9"), regex("a"), regex("/[!-/]/"), termOf(api.Term{Kind: 2, Text: "a", Fold: true}), field("x", api.OpIs, "1"), field("x", api.OpMost, ""), field("long.name", api.OpNot, "a b\x00"), not(word("a")), or(word("a"), word("b")), and(word("a"), word("b")), not(or(word("a"), and(word("b"), word("c")))), not(and(word("a"), or(word("b"), word("c")))), or(word("a"), or(word("b"), word("c"))), {Kind: api.ExAll}, exact(strings.Repeat("\x80", 256))} {
		for bytes := 2040; bytes <= 2060; bytes++ {
			q := padded(t, x, bytes)
			want := api.OK
			if bytes > 2048 {
				want = api.ErrQuery
			}
			if e := holdsQuery(t, q); e != want {
				t.Errorf("%d bytes, with %v: %d, want %d", bytes, x, e, want)
			}
		}
	}
	for _, c := range []struct{ from, to, more int }{{0, ever, 0}, {1, ever, 29}, {0, 0, 29}, {5, 5, 53}} {
		for bytes := 2040; bytes <= 2060; bytes++ {
			q := padded(t, word("a"), bytes-c.more)
			q.From, q.To = c.from, c.to
			want := api.OK
			if bytes > 2048 {
				want = api.ErrQuery
			}
			if e := holdsQuery(t, q); e != want {
				t.Errorf("%d bytes, %d of them a range: %d, want %d", bytes, c.more, e, want)
			}
		}
	}
}

func TestPrintTrees(t *testing.T) { // 15.2
	a, b, c, star := word("a"), word("b"), word("c"), api.Expr{Kind: api.ExAll}
	for want, x := range map[string]api.Expr{
		"*": star, "a": a, "not *": not(star), "not not a": not(not(a)), "a b": and(a, b), "a or b or *": or(a, b, star), "not (a b)": not(and(a, b)), "not (a or b)": not(or(a, b)), "a (b c)": and(a, and(b, c)), "(a b) c": and(and(a, b), c), "a (b or c)": and(a, or(b, c)), "a or b c": or(a, and(b, c)), "a b or c": or(and(a, b), c), "a or (b or c)": or(a, or(b, c)), "(a or b) or c": or(or(a, b), c), "a not b": and(a, not(b)), "a or not b": or(a, not(b)), "not a b": and(not(a), b), "not not (a or b)": not(not(or(a, b))), "a (b (c or a) not (b c))": and(a, and(b, or(c, a), not(and(b, c)))), "a (b or c) or (a or b)": or(and(a, or(b, c)), or(a, b)),
	} {
		if s, e := Print(whole(x)); s != want || e != api.OK {
			t.Errorf("Print(%v): %q, %d, want %q", x, s, e, want)
		}
		holdsQuery(t, whole(x))
	}
	for want, q := range map[string]api.Query{
		"a": whole(a), "[..1970-01-01T00:00:00.000Z] a": {Expr: a}, "[1970-01-01T00:00:00.001Z..] a": {From: 1, To: ever, Expr: a}, "[1970-01-01T00:00:00.001Z..1970-01-01T00:00:00.001Z] a": {From: 1, To: 1, Expr: a}, "[..9999-12-31T23:59:59.999Z] a": {To: ever - 1, Expr: a}, "[9999-12-31T23:59:59.999Z..] a or b": {From: ever - 1, To: ever, Expr: or(a, b)},
	} {
		if s, e := Print(q); s != want || e != api.OK {
			t.Errorf("Print(%v): %q, %d, want %q", q, s, e, want)
		}
		holdsQuery(t, q)
	}
}

func TestPrintTerms(t *testing.T) { // 15.2
	for want, x := range map[string]api.Expr{
		`"a"`: exact("a"), `"or"`: exact("or"), `"or"i`: word("or"), `"and"i`: word("and"), `"not"i`: word("not"), "Or": word("Or"), "NOT": word("NOT"), "ors": word("ors"), "a-b": word("a-b"), `"-a"i`: word("-a"), `"/a"i`: word("/a"), "a/": word("a/"), `"[a"i`: word("[a"), "]a[": word("]a["), `"a b"i`: word("a b"), `" a"i`: word(" a"), `"a "i`: word("a "), `"a=b"i`: word("a=b"), `"a!"i`: word("a!"), `"a|"i`: word("a|"), `"(a)"i`: word("(a)"), `"*"i`: word("*"), `"\""i`: word(`"`), `\`: word(`\`), `"\\"`: exact(`\`), "\xe9": word("\xe9"), `"\xE9"`: exact("\xe9"), `"\x7F"i`: word("\x7f"), `"\x00\x0A\x1F ~\x7F\x80\xFF"`: exact("\x00\n\x1f ~\x7f\x80\xff"), `"\"\\/"`: exact(`"\/`), `"\xE9 "i`: word("\xe9 "),
		"/a/": regex("a"), `/\//`: regex("/"), `/\/\//`: regex("//"), `/[!-\/]/`: regex("[!-/]"), `/\\\//`: regex(`\\/`), `/\\\\\/a/`: regex(`\\\\/a`), "/()/": regex("()"), "/ /": regex(" "), `/"/`: regex(`"`), `/\n\x00/`: regex(`\n\x00`), "/a/i": termOf(api.Term{Kind: 2, Text: "a", Fold: true}), `/\//i`: termOf(api.Term{Kind: 2, Text: "/", Fold: true}),
		"x=1": field("x", 1, "1"), "x!=1": field("x", 2, "1"), "x<1": field("x", 3, "1"), "x<=1": field("x", 4, "1"), "x>1": field("x", 5, "1"), "x>=1": field("x", 6, "1"), "x~1": field("x", 7, "1"), `x=""`: field("x", 1, ""), "x=or": field("x", 1, "or"), "x=-": field("x", 1, "-"), "x=/a": field("x", 1, "/a"), "x=[": field("x", 1, "["), `x=\`: field("x", 1, `\`), `x="="`: field("x", 1, "="), `x<"=1"`: field("x", 3, "=1"), `x="\""`: field("x", 1, `"`), `x="a b"`: field("x", 1, "a b"), "x=\xff": field("x", 1, "\xff"), `x="\xFF "`: field("x", 1, "\xff "), `x="*"`: field("x", 1, "*"), `x="\x0A"`: field("x", 1, "\n"), "or=and": field("or", 1, "and"), "a.b[0]-=i": field("a.b[0]-", 1, "i"),
	} {
		if s, e := Print(whole(x)); s != want || e != api.OK {
			t.Errorf("Print(%v): %q, %d, want %q", x, s, e, want)
		}
		holdsQuery(t, whole(x))
		holdsQuery(t, whole(not(and(x, or(x, x)))))
	}
	for b := range 256 {
		c := string([]byte{byte(b)})
		for _, s := range []string{c, c + "a", "a" + c, "a" + c + "b", c + c} {
			for _, x := range []api.Expr{word(s), exact(s), field("x", api.OpIs, s)} {
				if e := holdsQuery(t, whole(x)); e != api.OK {
					t.Errorf("%v: %d", x, e)
				}
			}
			if s := plainRegexText(s); s != "" {
				holdsQuery(t, whole(regex(s)))
			}
		}
	}
}

// exprBy is a tree of so many levels at most; so many in a hundred of its nodes are spoilt.
func exprBy(r *rand.Rand, levels, wrong int) api.Expr {
	var x api.Expr
	switch kind := r.Intn(8); {
	case levels == 0 || kind < 3:
		x = pick(r, api.Expr{Kind: api.ExAll}, not(api.Expr{Kind: api.ExAll}), termOf(termBy(r)), termOf(termBy(r)), termOf(termBy(r)))
	case kind == 3:
		x = not(exprBy(r, levels-1, wrong))
	default:
		x.Kind = pick(r, api.ExAnd, api.ExOr)
		for range 2 + r.Intn(3) {
			x.Kids = append(x.Kids, exprBy(r, levels-1, wrong))
		}
	}
	if r.Intn(100) < wrong {
		spoil(r, &x)
	}
	return x
}

func termBy(r *rand.Rand) api.Term {
	fold := r.Intn(2) == 0
	switch r.Intn(6) {
	case 0:
		return api.Term{Kind: api.TermRegex, Text: pick(r, "a", "a|b", "/", "()", "[0-9]+", "^a$"), Fold: fold}
	case 1:
		return api.Term{Kind: api.TermField, Name: pick(r, "x", "or", "a.b[0]"), Op: 1 + r.Intn(7), Text: pick(r, "", "1", "a b", "-5", anyBytes(r, "", 2))}
	case 2:
		return api.Term{Kind: api.TermText, Text: anyBytes(r, pick(r, "", ` "\-/[]|=or`), 1+r.Intn(4)), Fold: fold}
	}
	return api.Term{Kind: api.TermText, Text: pick(r, "a", "b", "c", "or"), Fold: fold}
}

func spoil(r *rand.Rand, x *api.Expr) {
	switch r.Intn(9) {
	case 0:
		x.Kind = r.Intn(9) - 1
	case 1:
		x.Kids = times(word("k"), r.Intn(4))
	case 2:
		x.Term.Text = pick(r, "", "(", strings.Repeat("w", 257))
	case 3:
		x.Term.Name = pick(r, "", "9", "x", "x y")
	case 4:
		x.Term.Op = r.Intn(10) - 1
	case 5:
		x.Term.Fold = !x.Term.Fold
	case 6:
		x.Term.Kind = r.Intn(6) - 1
	case 7:
		*x = nots(*x, 34+r.Intn(8))
	case 8:
		*x = regex(pick(r, "(", "", "(a)", "a**", `\w`, "/"))
	}
}

func queryBy(r *rand.Rand, levels, wrong int) api.Query {
	q := whole(exprBy(r, levels, wrong))
	if r.Intn(4) == 0 {
		q.From, q.To = pick(r, 0, 1, 1794744000250, ever-1), pick(r, 0, 1, 1794744000250, ever-1, ever)
	}
	if r.Intn(100) < wrong {
		q.From, q.To = pick(r, -1, 0, ever-1, ever), pick(r, -1, 0, ever, ever+1)
	}
	return q
}

func TestQueriesByChance(t *testing.T) { // 15.2 to 15.5, 15.7
	r := rand.New(rand.NewSource(153))
	counts := map[api.Errno]int{}
	for range 12000 {
		counts[holdsQuery(t, queryBy(r, pick(r, 0, 1, 2, 3, 4, 7), pick(r, 0, 0, 2, 10)))]++
	}
	for _, e := range []api.Errno{api.OK, api.ErrQuery, api.ErrRange, api.ErrDeep, api.ErrMany, api.ErrWord, api.ErrRegex, api.ErrField} {
		if counts[e] < 20 {
			t.Errorf("%d: %d times alone", e, counts[e])
		}
	}
}

func TestNothingIsWritten(t *testing.T) { // P3
	r := rand.New(rand.NewSource(1500))
	for range 1000 {
		q := queryBy(r, 4, pick(r, 0, 5))
		kept := cloned(q.Expr)
		kids := append(slices.Clip(q.Expr.Kids), word("behind"))
		q.Expr.Kids = kids[:len(kids)-1]
		Right(q)
		Print(q)
		Same(q, q)
		Terms(q)
		Plain(q)
		if !plainSame(q.Expr, kept) || kids[len(kids)-1].Term.Text != "behind" {
			t.Fatalf("%v was written into: %v", kept, q.Expr)
		}
	}
}
