package lazy

import (
	"math/rand"
	"strings"
	"testing"

	"dragnet/api"
	"dragnet/syntax"
)

// TestLongWays has texts in which matches from many places come together, or not, while sets are thrown away.
func TestLongWays(t *testing.T) { // 10.3, 10.4
	r := rand.New(rand.NewSource(102))
	regexes := []string{"a*b", ".*x", "(a|b)*x", "(..)*x", "(...)*x|bbbb", "a.*b.*x", "[ab]*a[ab]{3}x", "(a|aa)*b", "^a*x|b*x", "(ab*)*$|^.{30}x", ".*a.{5}x", "(ab|ba)*x", "a*(b|x)$|.{40}$", ".{17}", ".{16}x", "(.b)*x|.{20}a$", "b.*|^.{18}|.*x"}
	for n := range 1500 {
		tree := read(t, regexes[n%len(regexes)])
		x := trioOf(t, tree, []int{2, 3, 4, 5, 6, 8, 12, 50, 4096}[r.Intn(9)])
		for range 3 {
			s := randomText(r, []string{"ab", "a", "aaab", "abbbb", "aaaaaaaaaaaax"}[r.Intn(5)], r.Intn(70))
			x.find(s, r.Intn(4)-1)
			if r.Intn(3) == 0 {
				x.has(s)
			}
		}
	}
}

func TestRandomLongWays(t *testing.T) { // 10.3, 10.4
	r := rand.New(rand.NewSource(103))
	for range 1500 {
		part := randomPart(r, 1+r.Intn(3))
		tree := cat(rep(part, 0, api.Infinite), []api.Regex{one('x'), rep(one('x'), 3, api.Infinite), alt(one('x'), one('b')), ended}[r.Intn(4)])
		if syntax.Right(tree) != api.OK || syntax.Positions(tree) > 60 {
			continue
		}
		x := trioOf(t, tree, 2+r.Intn(9))
		for range 3 {
			x.find(randomText(r, []string{"ab", "a", "aaab"}[r.Intn(3)], r.Intn(60)), 0)
		}
	}
}

func TestManySets(t *testing.T) { // 10.4: so many as there may be, and more
	s := randomText(rand.New(rand.NewSource(104)), "ab", 30000)
	for _, most := range []int{2, 100, 4095, 4096} {
		for _, text := range []string{"[ab]*a[ab]{13}x", "a[ab]{12}x"} {
			x := trioOf(t, read(t, text), most)
			if x.has(s); x.auto.Flushes() == 0 {
				t.Errorf("%s: no flush", x.name)
			}
		}
	}
	for _, most := range []int{64, 65, 66} { // S0, and a search set for each way in which the last six bytes are an a or not
		x := trioOf(t, read(t, "a[ab]{5}x"), most)
		if x.has(s); (x.auto.Flushes() == 0) != (most >= 65) || most >= 65 && x.auto.States() != 65 {
			t.Errorf("%s: States %d, Flushes %d", x.name, x.auto.States(), x.auto.Flushes())
		}
	}
}

// TestMostAtItsBorder: as many sets as there is room for make no flush, one more makes one.
func TestMostAtItsBorder(t *testing.T) { // 10.4, 10.5
	r := rand.New(rand.NewSource(105))
	for range 300 {
		tree := randomTree(r, 1+r.Intn(4))
		if syntax.Right(tree) != api.OK {
			continue
		}
		texts := []string{randomText(r, "ab", 8), randomText(r, "abx", 12), randomText(r, "a\xff", 5)}
		ask := func(x *trio) {
			for _, s := range texts {
				x.has(s)
				x.find(s, 0)
			}
		}
		x := trioOf(t, tree, 4096)
		ask(x)
		wanted := x.auto.States()
		if wanted < 3 {
			continue
		}
		x = trioOf(t, tree, wanted)
		if ask(x); x.auto.States() != wanted || x.auto.Flushes() != 0 {
			t.Fatalf("%s: with room for all: States %d, Flushes %d", x.name, x.auto.States(), x.auto.Flushes())
		}
		x = trioOf(t, tree, wanted-1)
		if ask(x); x.auto.Flushes() == 0 {
			t.Fatalf("%s: with room for all but one: no flush", x.name)
		}
	}
}

func TestAskedAgain(t *testing.T) { // 10.5: at once, with no flush between: no set more; and Flushes never falls
	r := rand.New(rand.NewSource(106))
	for range 400 {
		tree := randomTree(r, 1+r.Intn(4))
		if syntax.Right(tree) != api.OK {
			continue
		}
		a := made(t, tree, 2+r.Intn(12))
		for range 10 {
			s := randomText(r, "aab\xff", r.Intn(10))
			ask := func() (int, int, bool) { return a.Find(s, 0) }
			if r.Intn(2) == 0 {
				ask = func() (int, int, bool) { return 0, 0, a.Has(s) }
			}
			before := a.Flushes()
			i, j, found := ask()
			states, flushes := a.States(), a.Flushes()
			k, l, again := ask()
			if i != k || j != l || found != again || before > flushes || flushes > a.Flushes() {
				t.Fatalf("%v, %q: %d, %d, %v, then %d, %d, %v; Flushes %d, %d, %d", tree, s, i, j, found, k, l, again, before, flushes, a.Flushes())
			}
			if before == flushes && (states != a.States() || flushes != a.Flushes()) {
				t.Fatalf("%v, %q: States %d, then %d; Flushes %d, then %d", tree, s, states, a.States(), flushes, a.Flushes())
			}
		}
	}
}

// TestWordBorders has positions in each word, and pairs from each to the next.
func TestWordBorders(t *testing.T) { // 10.2 to 10.4
	for _, n := range []int{2, 63, 64, 65, 66, 127, 128, 129, 192, 193, 256, 257, 320, 321, 384, 385, 448, 449, 499, 500} {
		a := made(t, cat(times(one('a'), n)...), 4096)
		s := "b" + strings.Repeat("a", n-1) + "b" + strings.Repeat("a", n+1)
		if a.Has(s[:2*n]) || !a.Has(s) || a.States() != n+2 { // S0, and search sets of 0 to n positions
			t.Errorf("%d positions: a match that is not there, or none that is; States %d", n, a.States())
		}
		if i, j, found := a.Find(s, 0); i != n+1 || j != 2*n+1 || !found {
			t.Errorf("%d positions: Find = %d, %d, %v", n, i, j, found)
		}
		if a.States() != 2*n+4 || a.Flushes() != 0 { // and M0, M1, and match sets of each position
			t.Errorf("%d positions: States %d, Flushes %d", n, a.States(), a.Flushes())
		}
		if i, j, found := a.Find(s, n+2); i != n+2 || j != 2*n+2 || !found {
			t.Errorf("%d positions: the second Find = %d, %d, %v", n, i, j, found)
		}
		if _, _, found := a.Find(s, n+3); found {
			t.Errorf("%d positions: a third match", n)
		}
	}
}

func TestMostThereMayBe(t *testing.T) { // 10.1, P1
	a := one('a')
	for name, r := range map[string]api.Regex{
		"500 that may be nothing": rep(cat(rep(a, 0, 1), rep(a, 0, 1)), 0, 250), "500, each behind each": rep(alt(times(a, 500)...), 0, api.Infinite), "500 branches": alt(times(a, 500)...), "499 branches that are tied": alt(append(times(cat(begun, a), 499), cat(a, ended))...), "500 by counts": rep(rep(a, 0, 2), 250, 250),
		"40 deep": nested(a, 39, 0, api.Infinite), "1999 branches, one of them a set": alt(append(times(empty, 1998), a)...), "2000 leaves by counts": rep(alt(append(times(empty, 7), a)...), 250, 250), "parts that count nothing": rep(cat(times(a, 1998)...), 0, 0), "no positions": cat(begun, ended),
	} {
		for _, most := range []int{2, 3, 4096} {
			x := trioOf(t, r, most)
			x.name = name
			for _, s := range []string{"", "a", "ba", strings.Repeat("a", 30) + "b"} {
				x.has(s)
				x.find(s, 1)
			}
		}
	}
}

// TestLongTexts has texts of which a search that goes back, or matches that go on where one went already, would not see the end.
func TestLongTexts(t *testing.T) { // 10.2, 10.3
	const n = 200000
	as := strings.Repeat("a", n)
	for _, text := range []string{"a*b", "(a*)*b", "(a|aa)*b", "a(a|b)*c", ".*.*.*x", "^(a+)+$|b"} {
		a := made(t, read(t, text), 50)
		if i, j, found := a.Find(as+"-", 0); found || a.Has(as+"-") {
			t.Errorf("%s: Find = %d, %d, %v", text, i, j, found)
		}
	}
	for _, x := range []struct {
		text string
		i, j int
	}{
		{"a*b", 0, n + 1}, {"aab", n - 2, n + 1}, {"ab|a*c", n - 1, n + 1}, {"(a*)*", 0, n}, {"a{40}b", n - 40, n + 1}, {"b$", n, n + 1}, {"[ab]*a[ab]{60}", 0, n + 1}, {"a*c|b", n, n + 1},
	} {
		a := made(t, read(t, x.text), 400)
		if i, j, found := a.Find(as+"b", 0); i != x.i || j != x.j || !found || !a.Has(as+"b") {
			t.Errorf("%s: Find = %d, %d, %v, want %d, %d", x.text, i, j, found, x.i, x.j)
		}
	}
}

func TestOneBehindTheOther(t *testing.T) { // 10.3
	s := strings.Repeat("xxab ", 40000)
	a := made(t, read(t, "x*ab|b"), 9)
	count, from := 0, 0
	for {
		i, j, found := a.Find(s, from)
		if !found {
			break
		}
		if i != 5*count || j != 5*count+4 {
			t.Fatalf("match %d is from %d to %d", count, i, j)
		}
		count, from = count+1, j
	}
	if count != 40000 || a.Flushes() != 0 {
		t.Errorf("%d matches, %d flushes", count, a.Flushes())
	}
}
