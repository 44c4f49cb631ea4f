package query

import (
	"math/rand"
	"slices"
	"testing"

	"dragnet/api"
)

func TestSame(t *testing.T) { // 15.4
	a, b, star := word("a"), word("b"), api.Expr{Kind: api.ExAll}
	list := []api.Query{whole(a), whole(b), whole(word("A")), whole(exact("a")), whole(regex("a")), whole(termOf(api.Term{Kind: 2, Text: "a", Fold: true})), whole(field("a", 1, "a")), whole(field("a", 2, "a")), whole(field("b", 1, "a")), whole(field("a", 1, "")), whole(star), whole(not(a)), whole(not(b)), whole(not(not(a))), whole(not(star)), whole(and(a, b)), whole(and(b, a)), whole(and(a, a)), whole(or(a, b)), whole(or(b, a)), whole(and(a, b, a)), whole(and(and(a, b), a)), whole(and(a, and(b, a))), whole(and(a, or(a, b))), {To: ever - 1, Expr: a}, {Expr: a}, {From: 1, To: ever, Expr: a}, {From: 1, To: 1, Expr: a}}
	for i, p := range list {
		for j, q := range list {
			other := api.Query{From: q.From, To: q.To, Expr: cloned(q.Expr)}
			if Same(p, other) != (i == j) {
				t.Errorf("Same(%v, %v): %v", p, q, i != j)
			}
		}
		for _, wrong := range []api.Query{{}, {To: ever}, {From: -1, To: ever, Expr: a}, whole(exact("")), whole(and(a)), whole(nots(a, 40)), whole(or(times(a, 65)...)), whole(regex(`\d`)), {To: ever + 1, Expr: a}} {
			if Same(p, wrong) || Same(wrong, p) || Same(wrong, wrong) {
				t.Errorf("Same of %v and %v: yes", p, wrong)
			}
		}
	}
	if !Same(whole(api.Expr{Kind: api.ExAll, Kids: []api.Expr{}}), whole(star)) { // P5
		t.Errorf("lists of nothing are not the same")
	}
	r := rand.New(rand.NewSource(154))
	yes := 0
	for range 20000 {
		p, q := queryBy(r, 2, 1), queryBy(r, 2, 1)
		if r.Intn(2) == 0 {
			q = api.Query{From: p.From, To: p.To, Expr: cloned(p.Expr)}
			if len(q.Expr.Kids) > 0 && r.Intn(2) == 0 {
				spoil(r, &q.Expr.Kids[r.Intn(len(q.Expr.Kids))])
			}
		}
		want := plainSameQuery(p, q) && plainRight(p) == 0 && plainRight(q) == 0
		if Same(p, q) != want || Same(q, p) != want {
			t.Fatalf("Same(%v, %v): %v", p, q, !want)
		}
		if want {
			yes++
		}
	}
	if yes < 1000 {
		t.Errorf("%d are the same", yes)
	}
}

func TestTerms(t *testing.T) { // 15.4
	a, b := word("a"), word("b")
	for s, want := range map[string][]api.Expr{
		"*": nil, "not *": nil, "a": {a}, "a a": {a}, "a A": {a, word("A")}, `a "a"`: {a, exact("a")}, `a "a"i`: {a}, "b or a b or not a": {b, a}, "(a or b) (b or a)": {a, b}, "not (b a)": {b, a}, "/a/ /a/i /(a)/": {regex("a"), termOf(api.Term{Kind: 2, Text: "a", Fold: true})}, "x=1 x!=1 y=1 x=1 x=2": {field("x", 1, "1"), field("x", 2, "1"), field("y", 1, "1"), field("x", 1, "2")}, `x="1" x=1`: {field("x", 1, "1")}, "[..1970-01-01T00:00:00Z]a": {a}, "b a (a (b c))": {b, a, word("c")},
	} {
		q, e, _ := Parse(s)
		var terms []api.Term
		for _, x := range want {
			terms = append(terms, x.Term)
		}
		if got := Terms(q); e != api.OK || !slices.Equal(got, terms) {
			t.Errorf("Terms(%s): %v, %d, want %v", s, got, e, terms)
		}
	}
	if got := Terms(whole(or(times(a, 64)...))); len(got) != 1 {
		t.Errorf("Terms of one term 64 times: %v", got)
	}
	for _, q := range []api.Query{{}, {From: 2, To: 1, Expr: a}, whole(or(times(a, 65)...)), whole(and(a, exact(""))), whole(and(a)), whole(nots(a, 40))} {
		if got := Terms(q); len(got) != 0 {
			t.Errorf("Terms(%v), which is wrong: %v", q, got)
		}
	}
}

func TestPlainExamples(t *testing.T) { // 15.5
	for s, want := range map[string]string{
		"a (b c)": "a b c", "a and not not (b or a or b) and *": "a (b or a)", "a or not *": "a", "a and not *": "not *", "* *": "*",
		"a": "a", "*": "*", "not a": "not a", "not *": "not *", "not not a": "a", "not not not a": "not a", "not not *": "*", "not not not *": "not *", "not (a b)": "not (a b)", "not not (a b)": "a b", "not (a *)": "not a", "not (not a)": "a", "not (not a and *)": "a", "not (* *)": "not *", "not (* or a)": "not *", "not (a and not *)": "*",
		"a a": "a", "a b a": "a b", "b a a b": "b a", "a *": "a", "* a *": "a", "a (b (c (d)))": "a b c d", "(a b) (b c)": "a b c", "a (* b)": "a b", "a not not (b c)": "a b c", "a (b or b)": "a b", "a (b or not *)": "a b", "a (b or *)": "a", "a (not * or not *)": "not *", "a not a": "a not a", "(a or b) (a or b)": "a or b", "(a or b) (b or a)": "(a or b) (b or a)", "(a or b) c (a or b)": "(a or b) c", "not a not a": "not a", "not a not not not a": "not a", "* * *": "*", "(* *) (* *)": "*", "* not *": "not *", "not * not *": "not *", "a b not * c": "not *", "a (b not *)": "not *", "A a": "A a", `a "a"i`: "a", `a "a"`: `a "a"`, "/(a)/ /a/": "/a/", `x=1 x="1"`: "x=1",
		"a or a": "a", "a or b or a": "a or b", "a or *": "*", "* or a or b": "*", "* or *": "*", "a or not * or b": "a or b", "not * or not *": "not *", "* or not *": "*", "a or (b or (c or d))": "a or b or c or d", "(a or b) or (b or c)": "a or b or c", "a or not not (b or c)": "a or b or c", "a or b b": "a or b", "a or b *": "a or b", "a or (b c)": "a or b c", "a or * *": "*", "a or not (* or b)": "a", "a b or a b": "a b", "a b or b a": "a b or b a", "a or (a or b) *": "a or b", "a (b or c) or a (b or c)": "a (b or c)", "a (a or *) a": "a", "(a or b) (c or not *)": "(a or b) c", "not (a or not not (b or a))": "not (a or b)",
		"[..1970-01-01T00:00:01Z] a a": "[..1970-01-01T00:00:01.000Z] a", "[1970-01-01T00:00:01Z..] * *": "[1970-01-01T00:00:01.000Z..] *",
	} {
		q, e, _ := Parse(s)
		if text, f := Print(Plain(q)); e != api.OK || text != want || f != api.OK {
			t.Errorf("Plain of %s: %s, %d, %d, want %s", s, text, e, f, want)
		}
		holdsQuery(t, q)
	}
	for _, q := range []api.Query{{}, {From: 5}, {From: 2, To: 1, Expr: word("a")}, whole(or(times(word("a"), 65)...)), whole(and(word("a"))), whole(nots(word("a"), 40)), {From: 1, To: ever, Expr: exact("")}} {
		if p := Plain(q); !plainSameQuery(p, api.Query{}) {
			t.Errorf("Plain(%v), which is wrong: %v", q, p)
		}
	}
}

// allTrees is all trees of so many levels at most, of some leaves, with two Kids at most.
func allTrees(levels int, leaves ...api.Expr) []api.Expr {
	if levels == 1 {
		return leaves
	}
	list := slices.Clone(leaves)
	below := allTrees(levels-1, leaves...)
	for _, x := range below {
		list = append(list, not(x))
		for _, y := range below {
			list = append(list, and(x, y), or(x, y))
		}
	}
	return list
}

func TestPlainAllSmall(t *testing.T) { // 15.5, 15.7
	a, b, star := word("a"), word("b"), api.Expr{Kind: api.ExAll}
	for _, x := range allTrees(3, a, b, star) {
		holdsQuery(t, whole(x))
	}
	for _, x := range allTrees(2, a, b, star, not(star)) {
		for _, y := range allTrees(2, a, b, star) {
			for _, q := range []api.Expr{and(x, a, y), or(x, a, y), not(not(and(x, y)))} {
				holdsQuery(t, whole(q))
			}
		}
	}
}

// fill writes something into all Kids of a tree, and into the room behind them.
func fill(x *api.Expr) {
	for i := range x.Kids {
		fill(&x.Kids[i])
	}
	room := x.Kids[:cap(x.Kids)]
	for i := range room {
		room[i] = api.Expr{Kind: 99}
	}
}

// roomsOf is the Kids of all nodes of a tree, each with the room behind them.
func roomsOf(x api.Expr) [][]api.Expr {
	var list [][]api.Expr
	if cap(x.Kids) > 0 {
		list = append(list, x.Kids[:cap(x.Kids)])
	}
	for _, kid := range x.Kids {
		list = append(list, roomsOf(kid)...)
	}
	return list
}

func TestAnswersAreNew(t *testing.T) { // P3
	r := rand.New(rand.NewSource(155))
	for range 2000 {
		q := queryBy(r, 4, 0)
		q.Expr = cloned(q.Expr)
		kept := cloned(q.Expr)
		p, again := Plain(q), Plain(q)
		terms := Terms(q)
		for _, term := range slices.Concat(terms, plainTerms(p.Expr)) {
			for _, old := range plainTerms(q.Expr) {
				if isWithin(term.Text, old.Text) || isWithin(term.Name, old.Name) {
					t.Fatalf("the texts of %v are those of the query", term)
				}
			}
		}
		starts := map[*api.Expr]int{}
		for _, room := range slices.Concat(roomsOf(p.Expr), roomsOf(again.Expr), roomsOf(q.Expr)) {
			for i := range room {
				starts[&room[i]]++
			}
		}
		for _, n := range starts {
			if n > 1 {
				t.Fatalf("two lists of Plain(%v) and of itself share memory", kept)
			}
		}
		fill(&p.Expr)
		if !plainSame(q.Expr, kept) || !plainSameQuery(again, Plain(q)) {
			t.Fatalf("what is written into Plain(%v) shows in it: %v", kept, q.Expr)
		}
		read, e, _ := Parse(plainPrint(again))
		other, _, _ := Parse(plainPrint(again))
		fill(&read.Expr)
		if e == api.OK && !plainSameQuery(other, again) {
			t.Fatalf("what is written into what Parse told shows in what it told again: %v", other)
		}
	}
}
