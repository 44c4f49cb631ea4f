package glushkov

import (
	"math/rand"
	"slices"
	"strconv"
	"strings"
	"testing"

	"dragnet/api"
	"dragnet/syntax"
)

func TestBuildOfWrongTrees(t *testing.T) { // 9.1, and example 4
	a := one('a')
	loop := make([]api.Regex, 1)
	loop[0] = rep(a, 0, 1)
	loop[0].Kids = loop
	huge := alt(times(empty, 1<<20)...)
	for _, x := range []struct {
		name string
		r    api.Regex
		want api.Errno
	}{
		{"nothing", api.Regex{}, api.ErrTree}, {"no kind", api.Regex{Kind: 8}, api.ErrTree}, {"below all kinds", api.Regex{Kind: -1}, api.ErrTree}, {"a row of one", cat(a), api.ErrTree}, {"a choice of none", alt(), api.ErrTree}, {"more than most", rep(a, 2, 1), api.ErrTree}, {"too great a count", rep(a, 256, api.Infinite), api.ErrTree}, {"below Infinite", rep(a, 0, -2), api.ErrTree}, {"a set that is no set", api.Regex{Kind: api.RxEmpty, Set: all}, api.ErrTree}, {"wrong within", alt(a, cat(a, api.Regex{})), api.ErrTree}, {"wrong where it counts nothing", rep(api.Regex{}, 0, 0), api.ErrTree},
		{"41 deep", nested(a, 40, 1, 1), api.ErrDeep}, {"within itself", loop[0], api.ErrDeep},
		{"begin behind", cat(a, begin), api.ErrAnchor}, {"end ahead", cat(end, a), api.ErrAnchor}, {"begin within", rep(begin, 0, 1), api.ErrAnchor}, {"begin in a row in a row", cat(cat(begin, a), a), api.ErrAnchor}, {"end in a choice in a choice", alt(a, alt(a, end)), api.ErrAnchor},
		{"501 positions", cat(times(a, 501)...), api.ErrMany}, {"501 by counts", cat(rep(cat(a, a), 0, 250), a), api.ErrMany}, {"2001 leaves", rep(alt(times(empty, 29)...), 69, 69), api.ErrMany}, {"very many", huge, api.ErrMany}, {"255 to the 39", nested(a, 39, 255, 255), api.ErrMany},
	} {
		m, e := Build(x.r)
		if m != nil || e != x.want || e != syntax.Right(x.r) {
			t.Errorf("Build of %s: %v, %v, want %v", x.name, m, e, x.want)
		}
	}
}

func TestBuildTellsWhatRightTells(t *testing.T) { // 9.1
	r := rand.New(rand.NewSource(91))
	for range 4000 {
		tree := randomTree(r, 1+r.Intn(5))
		if r.Intn(2) == 0 {
			tree = []api.Regex{cat(tree, tree), rep(tree, 0, 2), alt(tree, rep(tree, 3, 1)), nested(tree, 38, 1, 1)}[r.Intn(4)]
		}
		m, e := Build(tree)
		if e != syntax.Right(tree) || (m == nil) != (e != api.OK) {
			t.Fatalf("Build(%v): %v, Right: %v", tree, e, syntax.Right(tree))
		}
	}
}

func TestPositionsOfTheExamples(t *testing.T) { // 9.2, and examples 1 to 3
	for _, x := range []struct {
		text        string
		words       int
		empty       bool
		first, last []int
		follow      [][]int
	}{
		{"a(b|c)*d", 1, false, []int{0}, []int{3}, [][]int{{1, 2, 3}, {1, 2, 3}, {1, 2, 3}, nil}},
		{"a{2,3}", 1, false, []int{0}, []int{1, 2}, [][]int{{1}, {2}, nil}},
		{"(ab?){0,2}", 1, true, []int{0, 2}, []int{0, 1, 2, 3}, [][]int{{1, 2}, {2}, {3}, nil}},
		{"a{1,3}", 1, false, []int{0}, []int{0, 1, 2}, [][]int{{1, 2}, {2}, nil}},
		{"a{3,}", 1, false, []int{0}, []int{2}, [][]int{{1}, {2}, {2}}},
		{"a{0}", 0, true, nil, nil, nil}, {"a{0,0}b", 1, false, []int{0}, []int{0}, [][]int{nil}}, {"(a{0}){3}", 0, true, nil, nil, nil},
		{"", 0, true, nil, nil, nil}, {"^$", 0, false, nil, nil, nil}, {"^", 0, false, nil, nil, nil}, {"$", 0, false, nil, nil, nil}, {"^|$", 0, false, nil, nil, nil}, {"^|$|", 0, true, nil, nil, nil},
		{"^a|b$", 1, false, []int{0, 1}, []int{0, 1}, [][]int{nil, nil}}, {"^a*", 1, false, []int{0}, []int{0}, [][]int{{0}}}, {"a*$", 1, false, []int{0}, []int{0}, [][]int{{0}}}, {"^a*|b?", 1, true, []int{0, 1}, []int{0, 1}, [][]int{{0}, nil}},
		{"(a*)+", 1, true, []int{0}, []int{0}, [][]int{{0}}}, {"(a|b)+", 1, false, []int{0, 1}, []int{0, 1}, [][]int{{0, 1}, {0, 1}}}, {"(ab)*", 1, true, []int{0}, []int{1}, [][]int{{1}, {0}}},
		{"[^\\x00-\\xFF]a", 1, false, []int{0}, []int{1}, [][]int{{1}, nil}}, // whatever the sets hold
	} {
		m := checkBuilt(t, read(t, x.text))
		if m.Len() != len(x.follow) || m.Words() != x.words || m.Empty() != x.empty || !slices.Equal(m.First(), x.first) || !slices.Equal(m.Last(), x.last) {
			t.Errorf("%s: Len %d, Words %d, Empty %v, First %v, Last %v", x.text, m.Len(), m.Words(), m.Empty(), m.First(), m.Last())
		}
		for p, want := range x.follow {
			if got := m.Follow(p); !slices.Equal(got, want) {
				t.Errorf("%s: Follow(%d) = %v, want %v", x.text, p, got, want)
			}
		}
	}
}

func TestSets(t *testing.T) { // 9.2
	m := built(t, cat(one(0), one(255), anyOf(all), anyOf(api.Set{}), anyOf(setOf("?@\x7f\x80"))))
	for p, want := range []api.Set{{1}, {0, 0, 0, 1 << 63}, {^uint64(0), ^uint64(0), ^uint64(0), ^uint64(0)}, {}, {1 << 63, 1<<63 | 1, 1}} {
		if got, ok := m.Set(p); got != want || !ok {
			t.Errorf("Set(%d) = %v, %v, want %v", p, got, ok, want)
		}
	}
}

// TestAllShortRegexes has every text of a few pieces that is a regex, and every short text of two kinds of bytes.
func TestAllShortRegexes(t *testing.T) { // 9.2 to 9.4
	for _, x := range []struct {
		pieces string
		most   int
	}{
		{"a b | * ( )", 5}, {"a | ^ $ ()", 5}, {"a ^ $ | ? b*", 4}, {"a b {0} {2} {0,2} {1,} ( )", 4}, {"(a b) {1,2} | ? (ab)+ $", 4}, {"( a* b? )* ){2,} |", 5}, {". [^a] [^\\x00-\\xFF] + |", 5},
	} {
		count := 0
		texts := textsOver([]string{"a", "b"}, 4)
		for _, text := range textsOver(strings.Fields(x.pieces), x.most) {
			r, e, _ := syntax.Parse(text)
			if e != api.OK {
				continue
			}
			count++
			m := checkBuilt(t, r)
			for _, s := range texts {
				checkText(t, m, r, s)
			}
		}
		if count < 50 {
			t.Errorf("of the pieces %s there are %d regexes: too few", x.pieces, count)
		}
	}
}

func TestRandomTrees(t *testing.T) { // 9.2 to 9.4
	r := rand.New(rand.NewSource(92))
	right := 0
	for range 3000 {
		tree := randomTree(r, 1+r.Intn(5))
		if syntax.Right(tree) != api.OK || syntax.Positions(tree) > 150 { // the plain forms are slow
			continue
		}
		right++
		m := checkBuilt(t, tree)
		for range 6 {
			checkText(t, m, tree, randomText(r, "aab\xffx", r.Intn(9)))
		}
	}
	if right < 2000 {
		t.Errorf("%d right trees are too few", right)
	}
}

// TestWordBorders has positions in each word, and pairs from each to the next.
func TestWordBorders(t *testing.T) { // 9.2, 9.3
	for _, n := range []int{1, 2, 62, 63, 64, 65, 66, 127, 128, 129, 191, 192, 193, 255, 256, 257, 319, 320, 321, 383, 384, 385, 447, 448, 449, 498, 499, 500} {
		tree := one('a')
		if n > 1 {
			tree = cat(times(one('a'), n)...)
		}
		m := checkBuilt(t, tree)
		if m.Len() != n || m.Words() != (n-1)/64+1 {
			t.Errorf("of %d positions: Len %d, Words %d", n, m.Len(), m.Words())
		}
		s := "b" + strings.Repeat("a", n-1) + "b" + strings.Repeat("a", n+1)
		if i, j, found := m.Find(s, 0); i != n+1 || j != 2*n+1 || !found {
			t.Errorf("%d positions: Find = %d, %d, %v", n, i, j, found)
		}
		if i, j, found := m.Find(s, n+2); i != n+2 || j != 2*n+2 || !found {
			t.Errorf("%d positions: the second Find = %d, %d, %v", n, i, j, found)
		}
		if _, _, found := m.Find(s, n+3); found || m.Has(s[:2*n]) || !m.Has(s) {
			t.Errorf("%d positions: a match that is not there, or none that is", n)
		}
		if got := listed(m, s, n+1); !slices.Equal(got, []int{2*n + 1}) {
			t.Errorf("%d positions: Ends = %v", n, got)
		}
	}
}

func TestMostThereMayBe(t *testing.T) { // 9.2, P1
	a := one('a')
	for name, r := range map[string]api.Regex{
		"500 that may be nothing": rep(cat(rep(a, 0, 1), rep(a, 0, 1)), 0, 250), "500, each behind each": rep(alt(times(a, 500)...), 0, api.Infinite), "500 in a choice": alt(times(a, 500)...), "500 by counts": rep(rep(a, 0, 2), 250, 250),
		"40 deep": nested(a, 39, 0, api.Infinite), "40 deep, two each": nested(a, 8, 2, 2), "2000 leaves, one of them a set": alt(append(times(empty, 1998), a)...), "2000 leaves by counts": rep(alt(append(times(empty, 7), a)...), 250, 250), "parts that count nothing": rep(cat(times(a, 1998)...), 0, 0), "none of 255 to the 37": rep(nested(a, 37, 255, 255), 0, 0), "rows of nothing": cat(rep(rep(empty, 255, api.Infinite), 7, 7), a),
	} {
		m := built(t, r)
		if m.Len() != syntax.Positions(r) {
			t.Errorf("%s: Len %d, want %d", name, m.Len(), syntax.Positions(r))
		}
		s := strings.Repeat("a", 600) + "b"
		from, to, found := m.Find(s, 7)
		if got := listed(m, s, 7); found != (len(got) > 0) || found && (from != 7 || to != got[len(got)-1]) {
			t.Errorf("%s: Find: %d, %d, %v; Ends: %d places", name, from, to, found, len(got))
		}
	}
	m := built(t, rep(cat(rep(a, 0, 1), rep(a, 0, 1)), 0, 250))
	for p := range 500 {
		if got := m.Follow(p); len(got) != 499-p || len(got) > 0 && got[0] != p+1 {
			t.Fatalf("Follow(%d) of 500 that may be nothing: %v", p, got)
		}
	}
	if len(m.First()) != 500 || len(m.Last()) != 500 || !m.Empty() {
		t.Errorf("500 that may be nothing: First %d, Last %d, Empty %v", len(m.First()), len(m.Last()), m.Empty())
	}
	if _, to, _ := m.Find(strings.Repeat("a", 600), 0); to != 500 {
		t.Errorf("500 that may be nothing match to %d", to)
	}
}

func TestMachineKeepsNoTree(t *testing.T) { // P3
	const text = "^(a|b)c{2}|[xy]z$"
	r := read(t, text)
	before := copied(r)
	m := built(t, r)
	if !syntax.Same(r, before) {
		t.Fatalf("Build wrote into its tree: %v", r)
	}
	var spoil func(part *api.Regex)
	spoil = func(part *api.Regex) {
		for k := range part.Kids {
			spoil(&part.Kids[k])
		}
		*part = api.Regex{Kind: 99, Set: all}
	}
	spoil(&r)
	checkSame(t, m, before)
}

// checkSame: does a machine still tell what one that is built anew tells?
func checkSame(t *testing.T, m *Machine, r api.Regex) {
	t.Helper()
	other := checkBuilt(t, r)
	if m.Len() != other.Len() || m.Empty() != other.Empty() || !slices.Equal(m.First(), other.First()) || !slices.Equal(m.Last(), other.Last()) {
		t.Fatalf("%s: First %v, Last %v, want %v, %v", name(r), m.First(), m.Last(), other.First(), other.Last())
	}
	for p := range other.Len() {
		set, _ := m.Set(p)
		want, _ := other.Set(p)
		if !slices.Equal(m.Follow(p), other.Follow(p)) || set != want {
			t.Fatalf("%s: Follow(%d) %v, Set %v, want %v, %v", name(r), p, m.Follow(p), set, other.Follow(p), want)
		}
	}
	for _, s := range []string{"", "acc", "bccxz", "xcc", "xz", "xzz", "acccc"} {
		checkText(t, m, r, s)
	}
}

func TestListsAreNewMemory(t *testing.T) { // P3
	r := read(t, "(a|b|c)*(d|e)?")
	m := built(t, r)
	lists := func() [][]int { return [][]int{m.First(), m.Last(), m.Follow(0), m.Follow(1)} }
	before, spoilt := lists(), lists()
	for _, list := range spoilt {
		room := list[:cap(list)]
		for k := range room {
			room[k] = -7
		}
	}
	for k, list := range lists() {
		if !slices.Equal(list, before[k]) {
			t.Errorf("list %d was %v, and is %v behind a change to what was answered", k, before[k], list)
		}
	}
	checkSame(t, m, r)
}

func TestCountsAreAsTheyAreWrittenOut(t *testing.T) { // 9.4: what is matched hangs on the tree alone
	texts := textsOver([]string{"a", "b"}, 6)
	for _, kid := range []string{"a", "ab", "a|b", "a?", "a*b", "(a|)", "()", "a{2}|b", "[^\\x00-\\xFF]"} {
		k := "(" + kid + ")"
		for _, pair := range [][2]string{{"{2,3}", k + k + k + "?"}, {"{2,3}", k + k + "|" + k + k + k}, {"{0,2}", "(" + k + k + "?)?"}, {"*", "(" + k + "+)?"}, {"+", k + k + "*"}, {"{3,}", k + "+" + k + k}, {"{0}", "()"}, {"{1}", k}, {"?", "|" + k}, {"{2,}", k + "{2}" + k + "*"}} {
			a, b := built(t, read(t, k+pair[0])), built(t, read(t, pair[1]))
			for _, s := range texts {
				for at := range len(s) + 1 {
					if one, two := listed(a, s, at), listed(b, s, at); !slices.Equal(one, two) {
						t.Fatalf("Ends(%q, %d) of %s%s: %v, of %s: %v", s, at, k, pair[0], one, pair[1], two)
					}
				}
			}
		}
	}
}

func TestManyCounts(t *testing.T) { // 9.2
	for _, low := range []int{0, 1, 2, 63, 64, 65} {
		for _, high := range []int{0, 1, 2, 64, 65, 130, 255, api.Infinite} {
			if high != api.Infinite && high < low {
				continue
			}
			r := rep(one('a'), low, high)
			m := checkBuilt(t, r)
			for _, n := range []int{0, 1, 2, 62, 63, 64, 65, 66, 129, 130, 131, 254, 255, 256, 300} {
				i, j, found := m.Find(strings.Repeat("a", n), 0)
				want := n
				if high != api.Infinite {
					want = min(n, high)
				}
				if found != (n >= low) || found && (i != 0 || j != want) {
					t.Errorf("a{%d,%s} in %d: %d, %d, %v", low, strconv.Itoa(high), n, i, j, found)
				}
			}
		}
	}
}
