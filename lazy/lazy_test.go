package lazy

import (
	"math"
	"math/rand"
	"strings"
	"testing"

	"dragnet/api"
	"dragnet/syntax"
)

func TestNewOfWrongMost(t *testing.T) { // 10.1: it is told ahead of what is wrong with the tree
	for _, most := range []int{1, 0, -1, -2, 4097, 4098, 1 << 16, 1<<32 + 2, math.MinInt, math.MaxInt} {
		for _, r := range []api.Regex{one('a'), {}, cat(one('a')), nested(one('a'), 40, 1, 1)} {
			if a, e := New(r, most); a != nil || e != api.ErrArg {
				t.Errorf("New with %d: %v, %v", most, a, e)
			}
		}
	}
	for _, most := range []int{2, 3, 4095, 4096} {
		if a := made(t, one('a'), most); a.States() != 0 || a.Flushes() != 0 {
			t.Errorf("New with %d: States %d, Flushes %d", most, a.States(), a.Flushes())
		}
	}
}

func TestNewOfWrongTrees(t *testing.T) { // 10.1
	a := one('a')
	loop := make([]api.Regex, 1)
	loop[0] = rep(a, 0, 1)
	loop[0].Kids = loop
	for _, x := range []struct {
		name string
		r    api.Regex
		want api.Errno
	}{
		{"nothing", api.Regex{}, api.ErrTree}, {"no kind", api.Regex{Kind: 8}, api.ErrTree}, {"a row of one", cat(a), api.ErrTree}, {"a choice of none", alt(), api.ErrTree}, {"more than most", rep(a, 2, 1), api.ErrTree}, {"wrong in a branch", alt(a, cat(a, api.Regex{})), api.ErrTree},
		{"41 deep", nested(a, 40, 1, 1), api.ErrDeep}, {"within itself", loop[0], api.ErrDeep},
		{"begin behind", cat(a, begun), api.ErrAnchor}, {"end ahead", cat(ended, a), api.ErrAnchor}, {"begin in a row in a row", cat(cat(begun, a), a), api.ErrAnchor}, {"end in a choice in a choice", alt(a, alt(a, ended)), api.ErrAnchor},
		{"501 positions", cat(times(a, 501)...), api.ErrMany}, {"2001 leaves", rep(alt(times(empty, 29)...), 69, 69), api.ErrMany}, {"255 to the 39", nested(a, 39, 255, 255), api.ErrMany},
	} {
		for _, most := range []int{2, 4096} {
			if got, e := New(x.r, most); got != nil || e != x.want || e != syntax.Right(x.r) {
				t.Errorf("New of %s: %v, %v, want %v", x.name, got, e, x.want)
			}
		}
	}
}

// asked is a call, and all that is told behind it.
type asked struct {
	s               string
	from            int // none: Has is asked
	i, j            int
	found           bool
	states, flushes int
}

const none = -7

func TestExamples(t *testing.T) { // 10.2 to 10.4
	for _, x := range []struct {
		text  string
		most  int
		calls []asked
	}{
		{"a(b|c)*d", 3, []asked{{"xab", none, 0, 0, false, 1, 1}, {"d", none, 0, 0, false, 3, 1}}},
		{"a(b|c)*d", 3, []asked{{"xabd", 0, 1, 4, true, 2, 1}}},
		{"^a|b$", 9, []asked{{"cb", none, 0, 0, true, 3, 0}, {"ca", none, 0, 0, false, 3, 0}, {"bc", none, 0, 0, false, 3, 0}}},
		{"x*", 9, []asked{{"", none, 0, 0, true, 1, 0}}},
		{"^$", 2, []asked{{"", 0, 0, 0, true, 1, 0}, {"a", 1, 0, 0, false, 2, 0}}},
		// A search ends where a match shows; a match goes on to where no position is left.
		{"ab*", 9, []asked{{"abbb", none, 0, 0, true, 2, 0}, {"abbb", 0, 0, 4, true, 5, 0}}},
		{"ab*", 9, []asked{{"abxa", 0, 0, 2, true, 3, 0}}},
		{"a|abc", 9, []asked{{"abx", 0, 0, 1, true, 3, 0}, {"abc", 0, 0, 3, true, 4, 0}}},
		// The sets of no position: S0, M0, M1 and a search set are four; a match set of none is not wanted.
		{"a", 9, []asked{{"", none, 0, 0, false, 1, 0}, {"b", none, 0, 0, false, 2, 0}, {"bb", none, 0, 0, false, 2, 0}, {"", 0, 0, 0, false, 3, 0}, {"b", 0, 0, 0, false, 4, 0}, {"bb", 0, 0, 0, false, 4, 0}}},
		// The same positions are two sets, of a search and of a match.
		{"a", 9, []asked{{"a", none, 0, 0, true, 2, 0}, {"a", 0, 0, 1, true, 4, 0}, {"ba", 0, 1, 2, true, 5, 0}}},
		// A match is made at the text's end too, and none beyond it.
		{"a", 9, []asked{{"b", 1, 0, 0, false, 1, 0}, {"b", 2, 0, 0, false, 1, 0}, {"b", math.MaxInt, 0, 0, false, 1, 0}, {"b", math.MinInt, 0, 0, false, 2, 0}}},
		{"a$", 9, []asked{{"aa", none, 0, 0, true, 2, 0}, {"aab", none, 0, 0, false, 3, 0}, {"ab", 0, 0, 0, false, 6, 0}}},
		{"$", 9, []asked{{"ab", none, 0, 0, true, 2, 0}, {"ab", -1, 2, 2, true, 4, 0}}},
		{"^", 9, []asked{{"ab", none, 0, 0, true, 1, 0}, {"ab", 1, 0, 0, false, 2, 0}, {"ab", 0, 0, 0, true, 3, 0}}},
		// What was thrown away is made anew, the set that a search came from too.
		{"ab", 2, []asked{{"xx", none, 0, 0, false, 2, 0}, {"xx", none, 0, 0, false, 2, 0}, {"xax", none, 0, 0, false, 2, 1}, {"xax", none, 0, 0, false, 2, 3}}},
	} {
		a := made(t, read(t, x.text), x.most)
		for n, c := range x.calls {
			i, j, found := 0, 0, false
			if c.from == none {
				found = a.Has(c.s)
			} else {
				i, j, found = a.Find(c.s, c.from)
			}
			if got := (asked{c.s, c.from, i, j, found, a.States(), a.Flushes()}); got != c {
				t.Errorf("%s, most %d, call %d: %v, want %v", x.text, x.most, n, got, c)
			}
		}
	}
}

// askAll asks of each text, with each place to begin from.
func (x *trio) askAll(texts []string) {
	x.t.Helper()
	for _, s := range texts {
		x.has(s)
		for from := -1; from <= len(s)+1; from++ {
			x.find(s, from)
		}
	}
}

// TestAllShortRegexes has every text of a few pieces that is a regex, and every short text of two kinds of bytes.
func TestAllShortRegexes(t *testing.T) { // 10.2 to 10.5
	for _, x := range []struct {
		pieces string
		most   int
	}{
		{"a b | * ( )", 4}, {"a | ^ $ ()", 5}, {"a ^ $ | ? b*", 4}, {"a b {0} {2} {0,2} {1,} ( )", 3}, {"(a b) {1,2} | (ab)+ $", 3}, {". [^a] [^\\x00-\\xFF] + |", 4},
	} {
		count := 0
		texts := textsOver([]string{"a", "b"}, 3)
		for _, text := range textsOver(strings.Fields(x.pieces), x.most) {
			r, e, _ := syntax.Parse(text)
			if e != api.OK {
				continue
			}
			count++
			for _, most := range []int{2, 3, 5, 4096} {
				trioOf(t, r, most).askAll(texts)
			}
		}
		if count < 25 {
			t.Errorf("of the pieces %s there are %d regexes: too few", x.pieces, count)
		}
	}
}

func TestTiesOfEachBranch(t *testing.T) { // 10.2, 10.3: each kind of branch beside each other kind
	branches := []api.Regex{begun, ended, empty, one('a'), rep(one('b'), 0, api.Infinite), cat(begun, ended), cat(begun, one('a')), cat(one('a'), ended), cat(begun, rep(one('a'), 0, 1), ended), cat(begun, rep(one('b'), 0, 2)), cat(rep(one('a'), 0, api.Infinite), ended), cat(one('b'), one('a')), alt(one('b'), empty)}
	texts := textsOver([]string{"a", "b"}, 3)
	for _, x := range branches {
		for _, y := range branches {
			for _, r := range []api.Regex{x, alt(x, y), alt(x, y, cat(begun, one('b'), one('b')))} {
				for _, most := range []int{2, 4, 9} {
					trioOf(t, r, most).askAll(texts)
				}
			}
		}
	}
}

func TestRandomTrees(t *testing.T) { // 10.2 to 10.5
	r := rand.New(rand.NewSource(101))
	right := 0
	for range 3000 {
		tree := randomTree(r, 1+r.Intn(5))
		if syntax.Right(tree) != api.OK || syntax.Positions(tree) > 150 { // the plain form is slow
			continue
		}
		right++
		x := trioOf(t, tree, []int{2, 2, 3, 4, 5, 7, 10, 20, 4096}[r.Intn(9)])
		for range 10 {
			s := randomText(r, "aab\xffx", r.Intn(12))
			if r.Intn(2) == 0 {
				x.has(s)
			} else {
				x.find(s, r.Intn(len(s)+3)-1)
			}
		}
	}
	if right < 2000 {
		t.Errorf("%d right trees are too few", right)
	}
}

func TestEachByte(t *testing.T) { // 10.2, 10.3
	var b strings.Builder
	for k := range 256 {
		b.WriteByte(byte(k))
	}
	every := b.String()
	for k := range 256 {
		a, rest := made(t, one(byte(k)), 9), made(t, anyOf(setWhere(func(other int) bool { return other != k })), 9)
		if i, j, found := a.Find(every, 0); i != k || j != k+1 || !found {
			t.Errorf("the byte %d: %d, %d, %v", k, i, j, found)
		}
		if a.Has(every[:k]+every[k+1:]) || !a.Has(every[k:k+1]) || rest.Has(every[k:k+1]) || !rest.Has(every) {
			t.Errorf("the byte %d is where it is not", k)
		}
	}
	var pairs []api.Regex
	for k := range 250 { // each byte is of a kind of its own; 500 positions are as many as there may be
		pairs = append(pairs, cat(one(byte(k)), one(byte(255-k))))
	}
	a := made(t, alt(pairs...), 4096)
	for k := range 256 {
		for other := range 256 {
			if s := string([]byte{byte(k), byte(other)}); a.Has(s) != (k < 250 && other == 255-k) {
				t.Errorf("Has(%q) of 250 pairs is wrong", s)
			}
		}
	}
}

func TestFindFromAnywhere(t *testing.T) { // 10.3
	x := trioOf(t, read(t, "^ab|b+|a$"), 4)
	for _, s := range []string{"", "a", "ab", "xabba", "aaaa", "abab"} {
		for _, from := range []int{math.MinInt, -len(s) - 1, -1, 0, 1, len(s), len(s) + 1, math.MaxInt - 1, math.MaxInt} {
			x.find(s, from)
		}
	}
}

func TestAutoKeepsNoTree(t *testing.T) { // P3
	const text = "^(a|b)c{2}|[xy]z$"
	r := read(t, text)
	a := made(t, r, 5)
	if !syntax.Same(r, read(t, text)) {
		t.Fatalf("New wrote into its tree: %v", r)
	}
	var spoil func(part *api.Regex)
	spoil = func(part *api.Regex) {
		for k := range part.Kids {
			spoil(&part.Kids[k])
		}
		*part = api.Regex{Kind: 99, Set: all}
	}
	spoil(&r)
	x := trioOf(t, read(t, text), 5)
	x.auto = a
	x.askAll([]string{"", "acc", "bccxz", "xcc", "xz", "xzz", "acccc"})
}

func TestAutosAreApart(t *testing.T) { // P4
	r := read(t, "a(b|c)*d|^b")
	x, y := trioOf(t, r, 3), trioOf(t, r, 6)
	for n, s := range []string{"abcd", "xabd", "", "abcb", "b", "xb", "cabcbd"} {
		x.has(s)
		if n%2 == 0 {
			y.find(s, n)
		}
		y.checkCounts("what another one was asked")
		x.find(s, 0)
	}
}
