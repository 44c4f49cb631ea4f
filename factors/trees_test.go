package factors

import (
	"math/rand"
	"slices"
	"strings"
	"testing"

	"dragnet/api"
	"dragnet/syntax"
)

// TestAllShortRegexes has every text of a few pieces that is a regex, and every short text of two kinds of bytes.
func TestAllShortRegexes(t *testing.T) { // 11.1 to 11.4
	some := textsOver([]string{"a", "b"}, 4)
	for _, x := range []struct {
		pieces string
		most   int
	}{
		{"a b | * ( )", 6}, {"a b . | +", 5}, {"a ^ $ | ? b*", 5}, {"a b {0} {2} {0,2} {1,} ( )", 5}, {"(a b) {1,2} | (ab)+ $", 5}, {". [ab] " + none + " + | a", 5}, {"(a|ab) b (ab)* a? +", 5},
	} {
		count := 0
		for _, text := range textsOver(strings.Fields(x.pieces), x.most) {
			r, e, _ := syntax.Parse(text)
			if e != api.OK {
				continue
			}
			count++
			check(t, r)
			checkTexts(t, r, some)
			checkMatches(t, r, some)
		}
		if count < 100 {
			t.Errorf("of %s there were %d regexes", x.pieces, count)
		}
	}
}

func TestRandomTrees(t *testing.T) { // 11.1 to 11.4
	a, b, ab := one('a'), one('b'), anyOf(setOf("ab"))
	dull, wide := anyOf(setOf("cdefghijklmnopq")), anyOf(setOf("abcdefghijklmnopq"))
	for n, leaves := range [][]api.Regex{
		{empty, a, a, b, b, one(0xff), ab, anyOf(all), void}, {a}, {a, a, a, a, a, b}, {a, a, empty, void}, {a, b, one('c'), one('d'), wide}, {a, b, ab, dull, wide, anyOf(all)}, {a, rep(a, 0, 1), rep(b, 1, api.Infinite), cat(a, b), alt(a, cat(a, b))},
	} {
		g := grower{rand.New(rand.NewSource(int64(n + 1))), leaves}
		right := 0
		for right < 1500 {
			r := g.tree(1 + g.Intn(5))
			if syntax.Right(r) != api.OK || syntax.Positions(r) > 60 {
				continue
			}
			right++
			check(t, r)
			var some []string
			for range 4 {
				some = append(some, randomText(g.Rand, "aabc", g.Intn(12)))
			}
			checkMatches(t, r, some)
		}
	}
}

// TestTreesWithTexts has random trees whose texts are few, in lines that have one of them.
func TestTreesWithTexts(t *testing.T) { // 11.1, 11.4
	g := grower{rand.New(rand.NewSource(11)), []api.Regex{one('a'), one('b'), anyOf(setOf("ab")), empty, rep(one('b'), 0, 1)}}
	found := 0
	for range 8000 {
		r := g.tree(1 + g.Intn(4))
		if syntax.Right(r) != api.OK {
			continue
		}
		texts, few := Exact(r)
		if !few {
			continue
		}
		found++
		checkMatches(t, r, texts)
		for _, s := range texts {
			if len(s) < 12 && !isText(r, s) {
				t.Fatalf("%s: Exact %q; %q is no text", name(r), texts, s)
			}
			checkMatches(t, r, []string{"ba" + s + "ab", s + "x", "x" + s})
		}
	}
	if found < 500 {
		t.Errorf("there were %d", found)
	}
}

// TestGreatTrees has trees as great as they may be: what is told is known, or held against the plain forms where these are quick.
func TestGreatTrees(t *testing.T) {
	a := one('a')
	deep := func(wrap func(api.Regex) api.Regex, times int) api.Regex {
		r := a
		for range times {
			r = wrap(r)
		}
		return r
	}
	plus := func(r api.Regex) api.Regex { return rep(r, 1, api.Infinite) }
	for _, x := range []struct {
		name                string
		r                   api.Regex
		exact, need, prefix string
	}{
		{"39 times +", deep(plus, 39), "-", "<a>", "a"},
		{"39 times *", deep(func(r api.Regex) api.Regex { return rep(r, 0, api.Infinite) }, 39), "-", "-", ""},
		{"39 times ?", deep(func(r api.Regex) api.Regex { return rep(r, 0, 1) }, 39), "<><a>", "-", ""},
		{"a row of a, + and ab, 19 times", deep(func(r api.Regex) api.Regex { return plus(cat(a, r, a, one('b'))) }, 19), "-", "<aaab>", strings.Repeat("a", 21) + "ba"},
		{"a row of a, * and ab, 19 times", deep(func(r api.Regex) api.Regex { return rep(cat(a, r, a, one('b')), 0, api.Infinite) }, 19), "-", "-", ""},
		{"39 times {1}", nested(a, 39, 1, 1), "<a>", "<a>", "a"},
		{"7 to 255, 7 times, of nothing", rep(rep(nested(empty, 37, 1, 1), 7, 255), 7, 7), "<>", "-", ""},
		{"no times 255 to the 38", rep(nested(a, 38, 255, 255), 0, 0), "<>", "-", ""},
		{"no times 255 to the 37 behind a", cat(a, rep(nested(a, 37, 255, 255), 0, 0)), "<a>", "<a>", "a"},
		{"2000 leaves of nothing", cat(cat(times(empty, 999)...), cat(times(empty, 998)...)), "<>", "-", ""},
		{"500 sets", cat(times(a, 500)...), "-", "<" + strings.Repeat("a", 32) + ">", strings.Repeat("a", 500)},
		{"500 choices of one byte", alt(times(a, 500)...), "<a>", "<a>", "a"},
		{"500 times no byte", cat(times(void, 500)...), "", "", ""},
		{"500 sets of all bytes", cat(times(anyOf(all), 500)...), "-", "-", ""},
	} {
		if e := syntax.Right(x.r); e != api.OK {
			t.Fatalf("%s: %v", x.name, e)
		}
		if got := line(Exact(x.r)); got != x.exact {
			t.Errorf("Exact of %s: %.200q, want %.200q", x.name, got, x.exact)
		}
		if got := line(Need(x.r)); got != x.need {
			t.Errorf("Need of %s: %.200q, want %.200q", x.name, got, x.need)
		}
		if got := Prefix(x.r); got != x.prefix {
			t.Errorf("Prefix of %s: %.200q, want %.200q", x.name, got, x.prefix)
		}
	}
}

// TestThousandsOfWords has alternatives that put thousands of words together, of which few are left, or too many.
func TestThousandsOfWords(t *testing.T) { // 11.2
	span := func(from, to int) api.Regex {
		return anyOf(setWhere(func(b int) bool { return b >= from && b < to }))
	}
	var kids []api.Regex
	for k := range 120 {
		kids = append(kids, cat(span(0, 4), span(4, 8), one(byte(k+8)), anyOf(all)))
	}
	if list, ok := Need(alt(kids...)); len(list) != 0 || ok || syntax.Right(alt(kids...)) != api.OK {
		t.Errorf("Need of too many: %q, %v", list, ok)
	}
	for _, last := range []api.Regex{span(0, 4), span(4, 8), rep(span(0, 4), 1, api.Infinite)} {
		want, _ := plainNeed(last)
		if list, ok := Need(alt(append(slices.Clone(kids), last)...)); !ok || len(want) != 4 || !slices.Equal(list, want) {
			t.Errorf("Need of few: %q, %v, want %q", list, ok, want)
		}
	}
}
