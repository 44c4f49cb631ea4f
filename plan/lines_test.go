package plan

import (
	"fmt"
	"math/rand"
	"slices"
	"strings"
	"testing"

	"dragnet/api"
	"dragnet/glushkov"
	"dragnet/query"
	"dragnet/syntax"
)

// asks holds one term against its plain form, of each of some texts.
func asks(t *testing.T, x api.Expr, texts ...string) {
	t.Helper()
	p, opposite := made(t, whole(x)), made(t, whole(not(x)))
	for _, s := range texts {
		want := plainTerm(x.Term, s)
		if p.Line(api.Line{Text: s}) != want || opposite.Line(api.Line{Text: s}) == want {
			t.Fatalf("%v of %q: not %t", x.Term, s, want)
		}
	}
}

func TestTextTerms(t *testing.T) { // 16.2
	for _, c := range []struct {
		word string
		fold bool
		text string
		want bool
	}{
		{"a", false, "", false}, {"a", false, "xa", true}, {"a", false, "A", false}, {"a", true, "A", true}, {"A", true, "xa", true}, {"ab", false, "a b", false}, {"ab", true, "xAbx", true}, {"ab", false, "a\nb", false}, {"a\nb", false, "xa\nb", true}, {"a\nb", true, "A\nBx", true},
		{"\xc4", true, "\xe4", false}, {"\xc4", true, "\xc4", true}, {"@", true, "`", false}, {"[", true, "{", false}, {"\x00", false, "a\x00", true}, {"error", true, "terror", true}, {"error", true, "err or", false},
	} {
		x := termOf(api.Term{Kind: api.TermText, Text: c.word, Fold: c.fold})
		if made(t, whole(x)).Line(api.Line{Text: c.text}) != c.want {
			t.Errorf("%q, %t, of %q: not %t", c.word, c.fold, c.text, c.want)
		}
	}
	for _, length := range []int{1, 2, 7, 8, 63, 64, 65, 255, 256} { // at all edges of what kernels are for
		pattern := strings.Repeat("abCD1", 60)[:length]
		for _, fold := range []bool{false, true} {
			x := termOf(api.Term{Kind: api.TermText, Text: pattern, Fold: fold})
			asks(t, x, "", pattern, pattern[1:], pattern[:length-1], "x"+pattern+"y", strings.ToUpper(pattern), "\n"+strings.ToLower(pattern), strings.Repeat(pattern[:length-1]+"-", 5)+pattern)
		}
	}
}

func setOf(b byte) api.Set {
	var set api.Set
	set[b/64] = 1 << (b % 64)
	return set
}

func TestEachByte(t *testing.T) { // 16.2
	for b := range 256 {
		one := string([]byte{byte(b)})
		class, _ := syntax.Print(api.Regex{Kind: api.RxSet, Set: setOf(byte(b))})
		for _, fold := range []bool{false, true} {
			text := made(t, whole(termOf(api.Term{Kind: api.TermText, Text: one, Fold: fold})))
			match := made(t, whole(regex(class, fold)))
			for other := range 256 {
				want := other == b || fold && plainSmall(byte(other)) == plainSmall(byte(b))
				l := api.Line{Text: string([]byte{'\n', byte(other)})}
				want = want || b == '\n'
				if text.Line(l) != want || match.Line(l) != want {
					t.Errorf("the byte %d, %t, in %q: %t, /%s/: %t", b, fold, l.Text, text.Line(l), class, match.Line(l))
				}
			}
		}
	}
}

func TestRegexTerms(t *testing.T) { // 16.2
	for _, c := range []struct {
		text string
		fold bool
		yes  []string
		no   []string
	}{
		{"a+b", false, []string{"ab", "xaabx", "a\naab"}, []string{"", "aa", "AB", "ba", "a b"}},
		{"a+b", true, []string{"AB", "xaAbx"}, []string{"", "aa", "ba"}},
		{"^a|b$", false, []string{"a", "ac", "cb", "b"}, []string{"", "ca", "bc", "c\na", "b\n"}},
		{"^$", false, []string{""}, []string{"a", "\n"}},
		{"()", false, []string{"", "a"}, nil},
		{"x*", true, []string{"", "a", "X"}, nil},
		{"[^\\x00-\\xFF]", false, nil, []string{"", "a", "\x00\xff"}},          // no match at all: no words, and known
		{"a[^\\x00-\\xFF]|b[^\\x00-\\xFF]", true, nil, []string{"", "a", "b"}}, // likewise
		{"(get|put) /x", false, []string{"get /x", "a put /xy"}, []string{"get", "/x", "Get /x", "getput /y"}},
		{"(get|GET|Put) .*x", true, []string{"gEt ..X", "puT  x"}, []string{"get", "put y", "ge x"}}, // words that are alike but for case
		{"(A|a)b*", true, []string{"a", "A"}, []string{"", "b"}},                                     // and one word alone behind that
		{"(get|GET)b*", false, []string{"get", "GETb"}, []string{"", "Get", "gETb"}},
		{"a.b", false, []string{"a\nb", "axb"}, []string{"ab", "axxb"}},
		{"(foo)+bar", true, []string{"FooBar", "xfoofoobar"}, []string{"foo bar", "fobar"}},
		{"[0-9]+x", true, []string{"7x", "17X"}, []string{"x", "7", "7 x"}},
		{"[a-z]{3}[0-9]", true, []string{"ABC1", "abcd9"}, []string{"ab1", "abc"}},
		{"\\x00", false, []string{"a\x00"}, []string{"a", ""}},
	} {
		p := made(t, whole(regex(c.text, c.fold)))
		for _, s := range append(slices.Clone(c.yes), c.no...) {
			if p.Line(api.Line{Text: s}) != slices.Contains(c.yes, s) {
				t.Errorf("%s, %t, of %q: %t", c.text, c.fold, s, p.Line(api.Line{Text: s}))
			}
		}
		asks(t, regex(c.text, c.fold), append(slices.Clone(c.yes), c.no...)...)
	}
}

// TestAllShortRegexes has every text of a few pieces that is a regex, and every short text of two letters in both cases.
func TestAllShortRegexes(t *testing.T) { // 16.2
	texts := textsOver("aAbB", 4)
	count := 0
	for _, s := range textsOver("aB|()*^$", 5) {
		r, e, _ := syntax.Parse(s)
		text, _ := syntax.Print(r)
		if e != api.OK || text != s { // each tree once
			continue
		}
		count++
		for _, fold := range []bool{false, true} {
			x := regex(text, fold)
			m, _ := glushkov.Build(plainTree(x.Term))
			p := made(t, whole(x))
			for _, text := range texts {
				if got := p.Line(api.Line{Text: text}); got != m.Has(text) {
					t.Fatalf("/%s/, %t, of %q: %t", s, fold, text, got)
				}
			}
		}
	}
	if count < 1000 {
		t.Errorf("%d regexes", count)
	}
}

// TestManyStates has a regex that leads to more sets of positions than are kept.
func TestManyStates(t *testing.T) { // 16.2, 16.5
	r := rand.New(rand.NewSource(162))
	p := made(t, whole(regex("a(a|b){12}cc", false)))
	m, _ := glushkov.Build(plainTree(regex("a(a|b){12}cc", false).Term))
	yes := 0
	for range 60 {
		s := someOf(r, 4000, "a", "b") + "c" + someOf(r, 3, "c", "b")
		got := p.Line(api.Line{Text: s + "acc"}) // the word that is needed stands there
		if got != m.Has(s+"acc") {
			t.Fatalf("of %q: %t", s, got)
		}
		if got {
			yes++
		}
	}
	if yes == 0 || yes == 60 {
		t.Errorf("%d hold", yes)
	}
}

func TestFieldTerms(t *testing.T) { // 16.2
	ops := []string{"=", "!=", "<", "<=", ">", ">=", "~"}
	for _, c := range []struct{ value, want, yes string }{ // yes: a 1 for each op that holds
		{"10", "10", "1001011"}, {"10", "9", "0100110"}, {"10", "9x", "0111000"}, {"1.0", "1", "1001011"}, {"1", "1.0", "1001010"}, {"ab", "b", "0111001"}, {"b", "ab", "0100110"}, {"", "", "1001011"}, {"x", "", "0100111"},
	} {
		for k, sign := range ops {
			p := made(t, read(t, fmt.Sprintf("x%s%q", sign, c.want)))
			want := c.yes[k] == '1'
			for _, text := range []string{"x=" + c.value, "y=1 x=" + c.value + ", x=zz", fmt.Sprintf(`{"a":{"x":1},"x":%q}`, c.value), fmt.Sprintf(`x=%q;`, c.value)} {
				if p.Line(api.Line{Text: text}) != want {
					t.Errorf("x%s%q of %s: %t", sign, c.want, text, !want)
				}
			}
			for _, text := range []string{"", "y=" + c.value, "xx=" + c.value, "X=" + c.value, "x =" + c.value, `{"a":{"x":"10"}}`, `{"y":1}`, "a.x=10"} {
				if p.Line(api.Line{Text: text}) {
					t.Errorf("x%s%q of %s, which has no such field", sign, c.want, text)
				}
			}
		}
	}
	if !made(t, whole(fieldIs("a.b[1]", api.OpIs, "2"))).Line(api.Line{Text: `{"a":{"b":[1,2]}}`}) {
		t.Errorf("of a path")
	}
}

func TestRange(t *testing.T) { // 16.2
	stamps := []int{least, -1, 0, 1, 4, 5, 6, api.MaxStamp - 1, api.MaxStamp, ever, ever + 1, greatest}
	for _, from := range []int{0, 1, 5, api.MaxStamp} {
		for _, to := range []int{0, 1, 5, 6, api.MaxStamp, ever} {
			if from > to {
				continue
			}
			for _, x := range []api.Expr{star(), loose("a"), not(loose("b"))} {
				p := made(t, api.Query{From: from, To: to, Expr: x})
				for _, stamp := range stamps {
					if got := p.Line(api.Line{Stamp: stamp, Text: "a"}); got != (stamp >= from && stamp < to) {
						t.Errorf("a line at %d, of %d to %d: %t", stamp, from, to, got)
					}
				}
			}
		}
	}
}

// allTrees is all trees of so many levels at most, of some leaves, with two Kids at most.
func allTrees(levels int, leaves ...api.Expr) []api.Expr {
	if levels == 1 {
		return leaves
	}
	list := slices.Clone(leaves)
	below := allTrees(levels-1, leaves...)
	for _, x := range below {
		list = append(list, not(x))
		for _, y := range below {
			list = append(list, and(x, y), or(x, y))
		}
	}
	return list
}

func TestAllSmallTrees(t *testing.T) { // 16.2: truth tables
	lines := []api.Line{{Text: ""}, {Text: "a"}, {Text: "b=1"}, {Text: "a b=1"}, {Text: "c"}, {Text: "ac"}, {Text: "b=1 c"}, {Text: "a b=1 c"}}
	trees := allTrees(3, loose("a"), fieldIs("b", 1, "1"), star())
	for _, x := range allTrees(2, loose("a"), fieldIs("b", 1, "1"), regex("c", false)) {
		trees = append(trees, and(regex("c", false), x, loose("a")), or(x, regex("c", false), loose("a")), and(x, not(x)), or(and(x, x), x))
	}
	for _, x := range trees {
		var want []int
		for n, l := range lines {
			if plainHolds(x, l.Text) {
				want = append(want, n)
			}
		}
		if got := made(t, whole(x)).Lines(lines); !slices.Equal(got, want) {
			t.Fatalf("%v: %v, want %v", x, got, want)
		}
	}
}

func TestAllTerms(t *testing.T) { // 16.2: the last of as many terms as there may be
	var list []api.Expr
	for n := range 64 {
		list = append(list, exact(fmt.Sprintf("<%d>", n)))
	}
	some, all := made(t, whole(or(list...))), made(t, whole(and(list...)))
	everything := ""
	for n := range 64 {
		everything += fmt.Sprintf("<%d>", n)
	}
	for n := range 64 {
		one := fmt.Sprintf("<%d>", n)
		if !some.Line(api.Line{Text: one}) || all.Line(api.Line{Text: strings.Replace(everything, one, "", 1)}) {
			t.Errorf("the term %d is not asked", n)
		}
	}
	if some.Line(api.Line{Text: "<64>"}) || !all.Line(api.Line{Text: everything}) {
		t.Errorf("of 64 terms")
	}
}

func TestAnyLines(t *testing.T) { // 16.2: lines of any kind
	filler := strings.Repeat("x", api.MaxLine)
	long := strings.Repeat(filler, 9)
	for s, want := range map[string][]int{
		"error": {0, 1, 2, 3, 4}, "status>=500": {1, 3}, "/er+or$/": {0, 1, 4}, "not error": {5, 6}, "/^\\n/": {2}, "*": {0, 1, 2, 3, 4, 5, 6},
	} {
		p := made(t, read(t, s))
		lines := []api.Line{{Text: filler + "error"}, {Text: "status=500\n" + long + " error"}, {Text: "\nerror\n"}, {Text: `{"status":503,"m":"` + filler + ` error"}`}, {Text: `{"status":503,"m":"` + long + `"} error`}, {Text: long}, {Text: ""}}
		if got := p.Lines(lines); !slices.Equal(got, want) {
			t.Errorf("%s: %v, want %v", s, got, want)
		}
	}
	p := made(t, read(t, "a"))
	if got := p.Lines(nil); len(got) != 0 {
		t.Errorf("Lines of none: %v", got)
	}
	if got := p.Lines([]api.Line{{Text: "b"}, {Stamp: -1, Text: "a"}}); len(got) != 0 {
		t.Errorf("Lines of which none is wanted: %v", got)
	}
	if got := p.Lines(slices.Repeat([]api.Line{{Text: "a"}, {Text: "b"}}, 3)); !slices.Equal(got, []int{0, 2, 4}) {
		t.Errorf("Lines: %v", got)
	}
}

// wanted is the numbers of the lines that a query wants, by the chapter's words.
func wanted(q api.Query, lines []api.Line) []int {
	var list []int
	for n, l := range lines {
		if plainWants(q, l) {
			list = append(list, n)
		}
	}
	return list
}

func TestByChance(t *testing.T) { // 16.2 to 16.5
	r := rand.New(rand.NewSource(165))
	some, terms := 0, 0
	for range 4000 {
		q, lines := queryBy(r), linesBy(r, 25)
		p := made(t, q)
		want := wanted(q, lines)
		if got := p.Lines(lines); !slices.Equal(got, want) {
			text, _ := query.Print(q)
			t.Fatalf("%s of %v: %v, want %v", text, lines, got, want)
		}
		if got := p.Order(); !slices.Equal(got, plainOrder(q)) || p.Cost() != len(got) {
			t.Fatalf("%v: Order %v, Cost %d, want %v", q, got, p.Cost(), plainOrder(q))
		}
		holdsSkips(t, r, p, q)
		holdsPlain(t, r, q, lines)
		holdsNot(t, q, lines)
		holdsOrderOfKids(t, r, q, lines)
		holdsOrderOfLines(t, r, p, lines)
		terms += p.Cost()
		if len(want) > 0 && len(want) < len(lines) {
			some++
		}
	}
	if some < 1000 || terms < 4000 {
		t.Errorf("%d queries want some lines; %d terms", some, terms)
	}
}

// holdsSkips: what Skips says of two stamps is so of the lines between.
func holdsSkips(t *testing.T, r *rand.Rand, p *Plan, q api.Query) {
	t.Helper()
	l := lineBy(r)
	min, max := l.Stamp, lineBy(r).Stamp
	skips := p.Skips(min, max)
	if skips != plainSkips(q, min, max) {
		t.Fatalf("Skips(%d, %d) of %v: %t", min, max, q, skips)
	}
	for _, stamp := range []int{min, max} {
		if skips && min <= max && p.Line(api.Line{Stamp: stamp, Text: l.Text}) {
			t.Fatalf("%v skips %d to %d, and wants a line at %d", q, min, max, stamp)
		}
	}
	all := made(t, api.Query{From: q.From, To: q.To, Expr: star()})
	if !skips && !all.Line(api.Line{Stamp: min}) && !all.Line(api.Line{Stamp: q.From}) {
		t.Fatalf("%v does not skip %d to %d, and would want no line there", q, min, max)
	}
}

// holdsPlain: the plan of the plain query says the same.
func holdsPlain(t *testing.T, r *rand.Rand, q api.Query, lines []api.Line) {
	t.Helper()
	a, b := made(t, q), made(t, query.Plain(q))
	min, max := lineBy(r).Stamp, lineBy(r).Stamp
	if !slices.Equal(a.Lines(lines), b.Lines(lines)) || a.Skips(min, max) != b.Skips(min, max) || !slices.Equal(a.Order(), b.Order()) || a.Cost() != b.Cost() {
		t.Fatalf("Plain of %v says something else", q)
	}
}

// holdsNot: of the lines in the range each is wanted by just one of the two.
func holdsNot(t *testing.T, q api.Query, lines []api.Line) {
	t.Helper()
	opposite := api.Query{From: q.From, To: q.To, Expr: not(q.Expr)}
	if query.Right(opposite) != api.OK {
		return
	}
	a, b := made(t, q), made(t, opposite)
	for _, l := range lines {
		if inRange := plainInRange(q, l.Stamp); (a.Line(l) != b.Line(l)) != inRange || a.Line(l) && !inRange {
			t.Fatalf("%v and its ExNot of %v: %t, %t", q, l, a.Line(l), b.Line(l))
		}
	}
}

func holdsOrderOfKids(t *testing.T, r *rand.Rand, q api.Query, lines []api.Line) {
	t.Helper()
	other := api.Query{From: q.From, To: q.To, Expr: shuffled(r, q.Expr)}
	if !slices.Equal(made(t, q).Lines(lines), made(t, other).Lines(lines)) {
		t.Fatalf("%v and %v want other lines", q, other)
	}
}

func shuffled(r *rand.Rand, x api.Expr) api.Expr {
	var kids []api.Expr
	for _, k := range r.Perm(len(x.Kids)) {
		kids = append(kids, shuffled(r, x.Kids[k]))
	}
	x.Kids = kids
	return x
}

// holdsOrderOfLines: what is wanted hangs on the line alone.
func holdsOrderOfLines(t *testing.T, r *rand.Rand, p *Plan, lines []api.Line) {
	t.Helper()
	first := p.Lines(lines)
	for _, n := range append(r.Perm(len(lines)), r.Perm(len(lines))...) {
		if p.Line(lines[n]) != slices.Contains(first, n) {
			t.Fatalf("of %v another time: %t", lines[n], p.Line(lines[n]))
		}
	}
	if !slices.Equal(p.Lines(lines), first) {
		t.Fatalf("of the same lines another time: %v, want %v", p.Lines(lines), first)
	}
}
