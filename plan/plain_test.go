package plan

import (
	"math/rand"
	"slices"
	"strings"
	"testing"

	"dragnet/api"
	"dragnet/fields"
	"dragnet/glushkov"
	"dragnet/query"
	"dragnet/syntax"
)

// The chapter's words, done literally.

const (
	ever     = api.MaxStamp + 1
	least    = -1 << 63
	greatest = 1<<63 - 1
)

func plainSmall(b byte) byte {
	if b >= 65 && b <= 90 {
		return b + 32
	}
	return b
}

func plainStands(text, word string, fold bool) bool {
	for at := 0; at+len(word) <= len(text); at++ {
		same := true
		for k := range len(word) {
			a, b := text[at+k], word[k]
			if fold {
				a, b = plainSmall(a), plainSmall(b)
			}
			same = same && a == b
		}
		if same {
			return true
		}
	}
	return false
}

func plainTree(t api.Term) api.Regex {
	r, _, _ := syntax.Parse(t.Text)
	if t.Fold {
		r = syntax.Fold(r)
	}
	return r
}

func plainTerm(t api.Term, text string) bool {
	switch t.Kind {
	case api.TermText:
		return plainStands(text, t.Text, t.Fold)
	case api.TermRegex:
		m, _ := glushkov.Build(plainTree(t))
		return m.Has(text)
	}
	for _, pair := range fields.All(text) {
		if pair.Name == t.Name {
			return fields.Is(pair.Value, t.Op, t.Text)
		}
	}
	return false
}

func plainHolds(x api.Expr, text string) bool {
	count := 0
	for _, kid := range x.Kids {
		if plainHolds(kid, text) {
			count++
		}
	}
	switch x.Kind {
	case api.ExTerm:
		return plainTerm(x.Term, text)
	case api.ExNot:
		return count == 0
	case api.ExAnd:
		return count == len(x.Kids)
	case api.ExOr:
		return count > 0
	}
	return true
}

func plainInRange(q api.Query, n int) bool { return !(q.From > n) && q.To > n }

func plainWants(q api.Query, l api.Line) bool {
	return plainInRange(q, l.Stamp) && plainHolds(q.Expr, l.Text)
}

// plainSkips: if numbers from min to max are in the range, then the least of them is min, or the range's first.
func plainSkips(q api.Query, min, max int) bool {
	for _, n := range []int{min, q.From} {
		if n >= min && n <= max && plainInRange(q, n) {
			return false
		}
	}
	return true
}

func plainWeight(t api.Term) int {
	switch t.Kind {
	case api.TermText:
		return 1
	case api.TermField:
		return 2
	}
	m, _ := glushkov.Build(plainTree(t))
	return 3 + m.Len()
}

// plainOrder takes the terms away one by one, of those that are left the first one of the least weight.
func plainOrder(q api.Query) []int {
	var weights, order []int
	for _, t := range query.Terms(query.Plain(q)) {
		weights = append(weights, plainWeight(t))
	}
	for range weights {
		best := -1
		for n, w := range weights {
			if !slices.Contains(order, n) && (best < 0 || w < weights[best]) {
				best = n
			}
		}
		order = append(order, best)
	}
	return order
}

// What tests are made of.

func exact(s string) api.Expr { return termOf(api.Term{Kind: api.TermText, Text: s}) }

func loose(s string) api.Expr { return termOf(api.Term{Kind: api.TermText, Text: s, Fold: true}) }

func regex(s string, fold bool) api.Expr {
	return termOf(api.Term{Kind: api.TermRegex, Text: s, Fold: fold})
}

func fieldIs(name string, op int, text string) api.Expr {
	return termOf(api.Term{Kind: api.TermField, Name: name, Op: op, Text: text})
}

func termOf(t api.Term) api.Expr { return api.Expr{Kind: api.ExTerm, Term: t} }

func not(x api.Expr) api.Expr { return api.Expr{Kind: api.ExNot, Kids: []api.Expr{x}} }

func and(kids ...api.Expr) api.Expr { return api.Expr{Kind: api.ExAnd, Kids: kids} }

func or(kids ...api.Expr) api.Expr { return api.Expr{Kind: api.ExOr, Kids: kids} }

func star() api.Expr { return api.Expr{Kind: api.ExAll} }

func whole(x api.Expr) api.Query { return api.Query{To: ever, Expr: x} }

func nots(x api.Expr, times int) api.Expr {
	for range times {
		x = not(x)
	}
	return x
}

// made is the plan of a right query.
func made(t *testing.T, q api.Query) *Plan {
	t.Helper()
	p, e := Compile(q)
	if p == nil || e != api.OK {
		t.Fatalf("Compile(%v): %v, %v", q, p, e)
	}
	return p
}

func read(t *testing.T, s string) api.Query {
	t.Helper()
	q, e, at := query.Parse(s)
	if e != api.OK {
		t.Fatalf("Parse(%q): %v, %d", s, e, at)
	}
	return q
}

// textsOver is all texts of at most so many bytes of some.
func textsOver(kinds string, most int) []string {
	list := []string{""}
	for from := 0; most > 0; most-- {
		to := len(list)
		for _, s := range list[from:to] {
			for k := range len(kinds) {
				list = append(list, s+kinds[k:k+1])
			}
		}
		from = to
	}
	return list
}

// someOf is some pieces, one behind the other.
func someOf(r *rand.Rand, most int, pieces ...string) string {
	var b strings.Builder
	for range r.Intn(most + 1) {
		b.WriteString(pieces[r.Intn(len(pieces))])
	}
	return b.String()
}

// termBy is a right term by chance.
func termBy(r *rand.Rand) api.Expr {
	switch r.Intn(4) {
	case 0:
		return termOf(api.Term{Kind: api.TermText, Text: someOf(r, 2, "a", "B", "err", " ") + "e", Fold: r.Intn(2) == 0})
	case 1:
		ops := []string{"1", "2", "1.0", "ab", "b", ""}
		return fieldIs([]string{"x", "y", "z.a"}[r.Intn(3)], 1+r.Intn(7), ops[r.Intn(len(ops))])
	}
	for {
		tree, e, _ := syntax.Parse(someOf(r, 5, "a", "b", "E", "err", "or", "(a|b)", "(err|B)", "x*", ".", "[0-9]+", "=", "|", "(", ")", "?", "^", "$", "e{1,2}"))
		if text, f := syntax.Print(tree); e == api.OK && f == api.OK {
			return regex(text, r.Intn(2) == 0)
		}
	}
}

func treeBy(r *rand.Rand, levels int) api.Expr {
	kind := r.Intn(7)
	if levels == 0 {
		kind = r.Intn(4)
	}
	switch kind {
	case 0:
		return star()
	case 4:
		return not(treeBy(r, levels-1))
	case 5, 6:
		x := api.Expr{Kind: []int{api.ExAnd, api.ExOr}[kind-5]}
		for range 2 + r.Intn(3) {
			x.Kids = append(x.Kids, treeBy(r, levels-1))
		}
		if r.Intn(2) == 0 { // what stands there again
			x.Kids = append(x.Kids, x.Kids[r.Intn(len(x.Kids))])
		}
		return x
	}
	return termBy(r)
}

// queryBy is a right query by chance, whose range begins and ends at small stamps or at the edges.
func queryBy(r *rand.Rand) api.Query {
	for {
		edges := []int{0, 1, 2, 3, 4, 5, api.MaxStamp, ever}
		q := api.Query{From: edges[r.Intn(len(edges))], To: edges[r.Intn(len(edges))], Expr: treeBy(r, 3)}
		if r.Intn(2) == 0 {
			q.From, q.To = 0, ever
		}
		if query.Right(q) == api.OK {
			return q
		}
	}
}

func lineBy(r *rand.Rand) api.Line {
	stamps := []int{least, -1, 0, 1, 2, 3, 4, 5, 6, api.MaxStamp - 1, api.MaxStamp, ever, greatest}
	text := someOf(r, 7, "a", "b", "A", "B", "err", "ERR", "or", "e", "E", "x", " ", "x=1", " x=2 ", " y=", " y=ab", "1.0 ", "=", "\n", "17", "\xff")
	if r.Intn(5) == 0 {
		text = []string{`{"x":1,"z":{"a":"ab"}}`, `{"y":"b","x":"err"} `, `{"x":2`, `{"z":{"a":1.0},"y":""}`, `{"z.a":"2","x":[1]}`}[r.Intn(5)]
	}
	return api.Line{Stamp: stamps[r.Intn(len(stamps))], Text: text}
}

func linesBy(r *rand.Rand, count int) []api.Line {
	var list []api.Line
	for range count {
		list = append(list, lineBy(r))
	}
	return list
}
