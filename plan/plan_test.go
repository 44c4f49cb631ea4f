package plan

import (
	"math/rand"
	"slices"
	"strings"
	"testing"

	"dragnet/api"
	"dragnet/query"
)

func times(x api.Expr, count int) []api.Expr { return slices.Repeat([]api.Expr{x}, count) }

func TestCompileRefuses(t *testing.T) { // 16.1
	a := loose("a")
	for _, c := range []struct {
		name string
		q    api.Query
		want api.Errno
	}{
		{"nothing", api.Query{}, api.ErrQuery}, {"no kind", whole(api.Expr{Kind: 6}), api.ErrQuery}, {"a kind below", whole(api.Expr{Kind: -1}), api.ErrQuery},
		{"a range below 0", api.Query{From: -1, To: 5, Expr: a}, api.ErrRange}, {"a range beyond the last stamp", api.Query{To: ever + 1, Expr: a}, api.ErrRange}, {"a range from beyond", api.Query{From: ever, To: ever, Expr: a}, api.ErrRange}, {"a range the wrong way", api.Query{From: 5, To: 4, Expr: a}, api.ErrRange}, {"a range far off", api.Query{From: least, To: greatest, Expr: a}, api.ErrRange},
		{"a range ahead of a tree", api.Query{From: 5, To: 4, Expr: and(a)}, api.ErrRange},
		{"an and of one", whole(and(a)), api.ErrQuery}, {"an or of none", whole(or()), api.ErrQuery}, {"a not of two", whole(api.Expr{Kind: api.ExNot, Kids: []api.Expr{a, a}}), api.ErrQuery}, {"all with a Kid", whole(api.Expr{Kind: api.ExAll, Kids: []api.Expr{a}}), api.ErrQuery}, {"all with a term", whole(api.Expr{Kind: api.ExAll, Term: a.Term}), api.ErrQuery}, {"wrong below", whole(and(a, not(or(a)))), api.ErrQuery},
		{"a term of no kind", whole(termOf(api.Term{Text: "a"})), api.ErrQuery}, {"a term of a kind beyond", whole(termOf(api.Term{Kind: 4, Text: "a"})), api.ErrQuery}, {"a text with a name", whole(termOf(api.Term{Kind: api.TermText, Text: "a", Name: "a"})), api.ErrQuery}, {"a field that folds", whole(termOf(api.Term{Kind: api.TermField, Name: "a", Op: 1, Fold: true})), api.ErrQuery},
		{"an empty text", whole(exact("")), api.ErrWord}, {"a long text", whole(loose(strings.Repeat("a", 257))), api.ErrWord},
		{"a regex that is none", whole(regex("(a", false)), api.ErrRegex}, {"a regex of another form", whole(regex(`\d`, true)), api.ErrRegex}, {"an empty regex", whole(regex("", false)), api.ErrRegex}, {"a regex of 501 positions", whole(regex("a{251}b{250}", false)), api.ErrRegex},
		{"a field without a name", whole(fieldIs("", 1, "a")), api.ErrField}, {"a field with a wrong name", whole(fieldIs("9x", 1, "a")), api.ErrField}, {"a field without an op", whole(fieldIs("x", 0, "a")), api.ErrField}, {"a field with an op beyond", whole(fieldIs("x", 8, "a")), api.ErrField}, {"a long value", whole(fieldIs("x", 1, strings.Repeat("a", 257))), api.ErrField},
		{"41 deep", whole(nots(a, 40)), api.ErrDeep}, {"65 terms", whole(or(times(a, 65)...)), api.ErrMany},
		{"too long a text", whole(or(times(exact(strings.Repeat("\x00", 200)), 3)...)), api.ErrQuery},
	} {
		if p, e := Compile(c.q); p != nil || e != c.want || e != query.Right(c.q) {
			t.Errorf("Compile of %s: %v, %v, want %v", c.name, p, e, c.want)
		}
	}
}

func TestCompileTakes(t *testing.T) { // 16.1
	a := loose("a")
	for _, q := range []api.Query{
		whole(star()), whole(a), whole(not(star())), {Expr: a}, {From: api.MaxStamp, To: ever, Expr: a}, {From: 7, To: 7, Expr: a}, {From: api.MaxStamp, To: api.MaxStamp, Expr: a},
		whole(nots(a, 39)), whole(or(times(a, 64)...)), whole(loose(strings.Repeat("a", 256))), whole(exact(strings.Repeat("\x00", 256))), whole(regex("a{250}b{250}", true)), whole(regex("[^\\x00-\\xFF]", false)), whole(regex("()", true)), whole(fieldIs("x", 7, "")), whole(fieldIs("x", 1, strings.Repeat("a", 256))),
		whole(api.Expr{Kind: api.ExAll, Kids: []api.Expr{}}),
	} {
		p := made(t, q)
		for _, l := range []api.Line{{}, {Text: "a"}, {Stamp: 7, Text: "x=1"}, {Stamp: api.MaxStamp, Text: strings.Repeat("ab", 300)}} {
			if p.Line(l) != plainWants(q, l) {
				t.Errorf("Line(%v) of %v: %t", l, q, p.Line(l))
			}
		}
	}
}

func TestExamples(t *testing.T) { // 16.2 to 16.4
	p := made(t, read(t, "[1970-01-01T00:00:01Z..1970-01-01T00:00:05Z] (error or status>=500) -/a+b/"))
	lines := []api.Line{{Stamp: 1000, Text: "Error: x"}, {Stamp: 1000, Text: "error aab"}, {Stamp: 1000, Text: "status=500 ab"}, {Stamp: 1000, Text: "status=404"}, {Stamp: 1000, Text: `{"status":503}`}, {Stamp: 999, Text: "error"}, {Stamp: 5000, Text: "error"}, {Stamp: 4999, Text: "error"}}
	wanted := []int{0, 4, 7}
	for n, l := range lines {
		if p.Line(l) != slices.Contains(wanted, n) {
			t.Errorf("Line(%v): %t", l, p.Line(l))
		}
	}
	if got := p.Lines(lines); !slices.Equal(got, wanted) {
		t.Errorf("Lines: %v", got)
	}
	for _, c := range []struct {
		min, max int
		want     bool
	}{{0, 999, true}, {0, 1000, false}, {5000, 9000, true}, {4999, 9000, false}, {2000, 1999, true}, {2000, 2000, false}} {
		if p.Skips(c.min, c.max) != c.want {
			t.Errorf("Skips(%d, %d) is not %t", c.min, c.max, c.want)
		}
	}
	if !slices.Equal(p.Order(), []int{0, 1, 2}) || p.Cost() != 3 {
		t.Errorf("Order: %v, Cost: %d", p.Order(), p.Cost())
	}
	if !made(t, read(t, "not status=1")).Line(api.Line{Text: "x"}) || made(t, read(t, "status!=1")).Line(api.Line{Text: "x"}) {
		t.Errorf("of a line without the field")
	}
}

func TestSkipsOfSmallRanges(t *testing.T) { // 16.3
	for from := range 5 {
		for to := from; to < 5; to++ {
			p := made(t, api.Query{From: from, To: to, Expr: loose("a")})
			for min := -2; min < 8; min++ {
				for max := -2; max < 8; max++ {
					want := true
					for n := min; n <= max; n++ {
						want = want && !(n >= from && n < to)
					}
					if p.Skips(min, max) != want {
						t.Errorf("Skips(%d, %d) of %d to %d is not %t", min, max, from, to, want)
					}
				}
			}
		}
	}
}

func TestSkipsAtEdges(t *testing.T) { // 16.3
	edges := []int{least, least + 1, -1, 0, 1, 999, 1000, 1001, api.MaxStamp - 1, api.MaxStamp, ever, ever + 1, greatest - 1, greatest}
	for _, from := range edges {
		for _, to := range edges {
			q := api.Query{From: from, To: to, Expr: not(star())} // what is asked beside the range says nothing
			if query.Right(q) != api.OK {
				continue
			}
			p := made(t, q)
			for _, min := range edges {
				for _, max := range edges {
					if p.Skips(min, max) != plainSkips(q, min, max) {
						t.Errorf("Skips(%d, %d) of %d to %d: %t", min, max, from, to, p.Skips(min, max))
					}
				}
			}
		}
	}
}

func TestOrder(t *testing.T) { // 16.4
	for s, want := range map[string][]int{
		"*": nil, "not *": nil, "a": {0}, "a a": {0}, "not a or a": {0}, "a A": {0, 1}, `a "a" "a"i`: {0, 1},
		`/abc/ x=1 "y" z`: {2, 3, 1, 0}, "x=1 y=2 a": {2, 0, 1}, "x~1 x<1 x=1": {0, 1, 2}, "/a{9}/ /b{8}/ /c{10}/": {1, 0, 2}, "/ab/ /AB/i /a/ /[a-z]/i": {2, 3, 0, 1}, "/a/ /()/ /^/ x=1": {3, 1, 2, 0}, "/(a{3}){3}/ /(a|b){2,6}c*/": {0, 1}, "/a*/ /a+/ /a?/ /a{0}/": {3, 0, 1, 2},
		"not (x=1 or not (/a/ b))": {2, 0, 1}, "a or not *": {0}, "a (b or *)": {0}, "/a/ or *": nil, "(x=1 b) (b c)": {1, 2, 0}, "not not b a": {0, 1},
		"[..1970-01-01T00:00:00Z] /a/ a": {1, 0},
	} {
		q := read(t, s)
		p := made(t, q)
		if got := p.Order(); !slices.Equal(got, want) || !slices.Equal(got, plainOrder(q)) || p.Cost() != len(want) {
			t.Errorf("%s: Order %v, Cost %d, want %v", s, got, p.Cost(), want)
		}
	}
}

// mixed is 64 terms of all weights, many of them alike.
func mixed(r *rand.Rand) []api.Expr {
	var list []api.Expr
	for n := range 64 {
		name := string([]byte{'a' + byte(n%26), 'a' + byte(n/26)})
		switch r.Intn(3) {
		case 0:
			list = append(list, loose(name))
		case 1:
			list = append(list, fieldIs(name, 1, "1"))
		default:
			list = append(list, regex(name+strings.Repeat("x", r.Intn(4)), false))
		}
	}
	return list
}

func TestOrderOfManyTerms(t *testing.T) { // 16.4
	r := rand.New(rand.NewSource(164))
	for range 50 {
		list := mixed(r)
		q := whole(or(and(list[:20]...), not(or(list[20:40]...)), and(list[40:]...)))
		p := made(t, q)
		if got := p.Order(); !slices.Equal(got, plainOrder(q)) || p.Cost() != 64 {
			t.Fatalf("of %v: Order %v, Cost %d", q, got, p.Cost())
		}
	}
}

func TestAnswersAreNew(t *testing.T) { // P3
	p := made(t, read(t, "/a/ b or x=1"))
	lines := []api.Line{{Text: "b"}, {Text: "ab"}, {Text: "x=1"}}
	order, numbers := p.Order(), p.Lines(lines)
	for _, list := range [][]int{order, numbers} {
		room := list[:cap(list)]
		for k := range room {
			room[k] = 77
		}
	}
	if got := p.Order(); !slices.Equal(got, []int{1, 2, 0}) {
		t.Errorf("Order, behind what was written into it: %v", got)
	}
	if got := p.Lines(lines); !slices.Equal(got, []int{1, 2}) {
		t.Errorf("Lines, behind what was written into it: %v", got)
	}
	if !slices.Equal(lines, []api.Line{{Text: "b"}, {Text: "ab"}, {Text: "x=1"}}) {
		t.Errorf("the lines were written into: %v", lines)
	}
}

func TestQueryIsNotKept(t *testing.T) { // P3
	r := rand.New(rand.NewSource(161))
	for range 300 {
		q := queryBy(r)
		text, _ := query.Print(q)
		lines := linesBy(r, 30)
		p := made(t, q)
		want := p.Lines(lines)
		if again, _ := query.Print(q); again != text {
			t.Fatalf("Compile(%s) wrote into it: %s", text, again)
		}
		spoil(&q.Expr)
		if got := p.Lines(lines); !slices.Equal(got, want) {
			t.Fatalf("what was written into %s behind Compile is seen: %v, want %v", text, got, want)
		}
	}
}

// spoil writes something else into each node below one.
func spoil(x *api.Expr) {
	for k := range x.Kids {
		spoil(&x.Kids[k])
		x.Kids[k].Kind, x.Kids[k].Term = api.ExTerm, api.Term{Kind: api.TermText, Text: "#"}
	}
}

// counted counts how often a way is asked.
type counted struct {
	way
	asks *int
}

func (c counted) holds(text string) bool {
	*c.asks++
	return c.way.holds(text)
}

// TestNothingIsAskedInVain: no answer tells how often terms are asked, but how long it takes does.
func TestNothingIsAskedInVain(t *testing.T) {
	for _, c := range []struct {
		q, text string
		want    []int // of each term: how often it is asked
	}{
		{"/a+/ x or /a+/ y", "a", []int{0, 1, 1}}, {"/a+/ x or /a+/ y", "ax", []int{1, 1, 0}}, {"/a+/ x or /a+/ y", "xy", []int{1, 1, 1}},
		{"k=1 (x or not x)", "x", []int{1, 0}}, {"(x or not x) k=1", "", []int{1, 1}}, {"k=1 or /a/ or x", "k=1 a", []int{1, 0, 1}}, {"(k=1 l=1) or /a/", "k=1 a", []int{1, 1, 1}}, {"(k=1 l=1 m=1 n=1) or /a/", "k=1 a", []int{0, 0, 0, 0, 1}}, {"not (/a/ x) x", "", []int{0, 1}}, {"[..1970-01-01T00:00:00Z] x", "x", []int{0}},
	} {
		p := made(t, read(t, c.q))
		got := make([]int, p.Cost())
		for n := range got {
			p.terms[n].way = counted{p.terms[n].way, &got[n]}
		}
		p.Line(api.Line{Text: c.text})
		if !slices.Equal(got, c.want) {
			t.Errorf("%s of %q: terms are asked %v times, want %v", c.q, c.text, got, c.want)
		}
	}
}

// TestAutomataAreSpared: an automaton is made where its words stand, and not again.
func TestAutomataAreSpared(t *testing.T) {
	p := made(t, read(t, "/(get|put) [0-9]+/"))
	m := p.terms[0].way.(sieved).then.(*match)
	p.Line(api.Line{Text: "post 17"})
	if m.auto != nil {
		t.Errorf("it is made for a line without its words")
	}
	p.Line(api.Line{Text: "get x"})
	first := m.auto
	p.Line(api.Line{Text: "put 17"})
	if first == nil || m.auto != first {
		t.Errorf("it is not made once")
	}
}
