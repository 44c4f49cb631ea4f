package syntax

import (
	"math"
	"math/rand"
	"slices"
	"strings"
	"testing"

	"dragnet/api"
)

// nested is a part within so many RxReps.
func nested(part api.Regex, n, low, high int) api.Regex {
	for range n {
		part = rep(part, low, high)
	}
	return part
}

func TestRightIsATree(t *testing.T) { // 8.2
	a, two := one('a'), []api.Regex{one('a'), one('b')}
	bit := api.Set{0, 0, 0, 1 << 63}
	for _, x := range []struct {
		r    api.Regex
		want api.Errno
	}{
		{a, api.OK}, {empty, api.OK}, {begin, api.OK}, {end, api.OK}, {cat(two...), api.OK}, {alt(two...), api.OK}, {rep(a, 0, 1), api.OK}, {anyOf(api.Set{}), api.OK}, {anyOf(setWhere(func(int) bool { return true })), api.OK},
		{api.Regex{}, api.ErrTree}, {api.Regex{Kind: -1}, api.ErrTree}, {api.Regex{Kind: 8}, api.ErrTree}, {api.Regex{Kind: math.MaxInt}, api.ErrTree}, {api.Regex{Kind: math.MinInt}, api.ErrTree}, {api.Regex{Kind: 8, Kids: two}, api.ErrTree},
		{cat(), api.ErrTree}, {cat(a), api.ErrTree}, {alt(), api.ErrTree}, {alt(a), api.ErrTree}, {api.Regex{Kind: api.RxRep, Max: 1}, api.ErrTree}, {api.Regex{Kind: api.RxRep, Max: 1, Kids: two}, api.ErrTree},
		{rep(a, 0, 0), api.OK}, {rep(a, 255, 255), api.OK}, {rep(a, 0, 255), api.OK}, {rep(a, 255, api.Infinite), api.OK}, {rep(a, 0, api.Infinite), api.OK}, {rep(a, 2, 1), api.ErrTree}, {rep(a, 1, 0), api.ErrTree}, {rep(a, 256, api.Infinite), api.ErrTree}, {rep(a, 256, 256), api.ErrTree}, {rep(a, 0, 256), api.ErrTree},
		{rep(a, -1, 1), api.ErrTree}, {rep(a, -1, api.Infinite), api.ErrTree}, {rep(a, 0, -2), api.ErrTree}, {rep(a, -3, -2), api.ErrTree}, {rep(a, 0, math.MaxInt), api.ErrTree}, {rep(a, math.MinInt, 0), api.ErrTree}, {rep(a, math.MaxInt, api.Infinite), api.ErrTree}, {rep(a, 0, math.MinInt), api.ErrTree},
		{cat(a, cat(a)), api.ErrTree}, {alt(a, api.Regex{}), api.ErrTree}, {rep(api.Regex{}, 0, 0), api.ErrTree},
		{api.Regex{Kind: api.RxEmpty, Kids: []api.Regex{}}, api.OK},
	} {
		if e := Right(x.r); e != x.want {
			t.Errorf("Right(%v): %v, want %v", x.r, e, x.want)
		}
		checkTree(t, x.r)
	}
	for kind := api.RxEmpty; kind <= api.RxRep; kind++ {
		good := api.Regex{Kind: kind}
		switch kind {
		case api.RxCat, api.RxAlt:
			good.Kids = two
		case api.RxRep:
			good.Kids, good.Max = two[:1], 1
		}
		for _, spoilt := range []func(*api.Regex){
			func(r *api.Regex) { r.Set = bit }, func(r *api.Regex) { r.Set = api.Set{1} }, func(r *api.Regex) { r.Min = 1 }, func(r *api.Regex) { r.Min = -1 }, func(r *api.Regex) { r.Max = 1 }, func(r *api.Regex) { r.Max = -1 },
			func(r *api.Regex) { r.Kids = nil }, func(r *api.Regex) { r.Kids = two[:1] }, func(r *api.Regex) { r.Kids = two },
		} {
			r := good
			spoilt(&r)
			checkTree(t, r)
			checkTree(t, cat(r, empty))
			checkTree(t, rep(alt(empty, r), 1, 2))
		}
	}
}

func TestRightIsNotTooDeep(t *testing.T) { // 8.2
	a := one('a')
	for _, x := range []struct {
		name string
		r    api.Regex
		want api.Errno
	}{
		{"40 deep", nested(a, 39, 0, 1), api.OK}, {"41 deep", nested(a, 40, 0, 1), api.ErrDeep}, {"60 deep", nested(a, 59, 0, 1), api.ErrDeep},
		{"wrong at 41", nested(api.Regex{}, 40, 0, 1), api.ErrTree}, {"wrong at 42", nested(api.Regex{}, 41, 0, 1), api.ErrDeep}, {"an anchor at 41", nested(begin, 40, 0, 1), api.ErrDeep}, {"an anchor at 40", nested(end, 39, 0, 1), api.ErrAnchor},
		{"41 deep behind others", cat(a, a, nested(a, 39, 0, 1)), api.ErrDeep}, {"41 deep ahead of a wrong one", cat(nested(a, 39, 0, 1), api.Regex{}), api.ErrDeep}, {"41 deep behind a wrong one", cat(api.Regex{}, nested(a, 39, 0, 1)), api.ErrTree},
		{"41 deep, many times", nested(a, 40, 255, 255), api.ErrDeep},
	} {
		if e := Right(x.r); e != x.want {
			t.Errorf("Right of %s: %v, want %v", x.name, e, x.want)
		}
		checkTree(t, x.r)
	}
}

func TestRightAnchors(t *testing.T) { // 8.2
	a := one('a')
	for _, x := range []struct {
		r    api.Regex
		want api.Errno
	}{
		{begin, api.OK}, {end, api.OK}, {cat(begin, a), api.OK}, {cat(a, end), api.OK}, {cat(begin, end), api.OK}, {cat(begin, a, a, end), api.OK}, {alt(begin, end, a), api.OK}, {alt(cat(begin, a), cat(a, end), end), api.OK},
		{cat(a, begin), api.ErrAnchor}, {cat(end, a), api.ErrAnchor}, {cat(a, begin, a), api.ErrAnchor}, {cat(a, end, a), api.ErrAnchor}, {cat(end, begin), api.ErrAnchor}, {cat(begin, begin), api.ErrAnchor}, {cat(end, end), api.ErrAnchor}, {cat(begin, end, end), api.ErrAnchor},
		{rep(begin, 0, 1), api.ErrAnchor}, {rep(end, 1, 1), api.ErrAnchor}, {rep(cat(begin, a), 1, 1), api.ErrAnchor}, {cat(cat(begin, a), a), api.ErrAnchor}, {cat(a, cat(a, end)), api.ErrAnchor}, {cat(alt(begin, a), a), api.ErrAnchor}, {cat(a, alt(a, end)), api.ErrAnchor},
		{alt(alt(begin, a), a), api.ErrAnchor}, {alt(a, alt(a, end)), api.ErrAnchor}, {alt(a, alt(a, cat(begin, a))), api.ErrAnchor}, {alt(a, cat(cat(begin, a), a)), api.ErrAnchor}, {alt(a, cat(a, begin)), api.ErrAnchor}, {alt(a, rep(end, 0, 1)), api.ErrAnchor}, {alt(alt(a, a), end), api.OK},
		// The first part that is wrong, in order.
		{cat(a, begin, api.Regex{}), api.ErrAnchor}, {cat(a, api.Regex{}, begin), api.ErrTree}, {cat(a, begin, nested(a, 50, 0, 1)), api.ErrAnchor}, {cat(a, api.Regex{Kind: api.RxBegin, Min: 1}), api.ErrTree},
	} {
		if e := Right(x.r); e != x.want {
			t.Errorf("Right(%v): %v, want %v", x.r, e, x.want)
		}
		checkTree(t, x.r)
	}
}

func TestRightIsNotTooMany(t *testing.T) { // 8.2
	a, none := one('a'), api.Regex{}
	wide := func(n int) api.Regex { return alt(times(empty, n)...) }
	zero := func(r api.Regex) api.Regex { return rep(r, 0, 0) }
	doubled := a
	for range 39 {
		doubled = cat(doubled, doubled)
	}
	for _, x := range []struct {
		name string
		r    api.Regex
		want api.Errno
	}{
		{"2000 parts", wide(1999), api.OK}, {"2001 parts, 2000 leaves", wide(2000), api.ErrMany}, {"2000 parts, most of them not written out", zero(wide(1998)), api.OK}, {"2001 parts, most of them not written out", zero(wide(1999)), api.ErrMany}, {"2 to the 39 leaves", doubled, api.ErrMany},
		{"a wrong part behind 1999", alt(append(times(empty, 1998), none)...), api.ErrTree}, {"a wrong part behind 2000", alt(append(times(empty, 1999), none)...), api.ErrTree}, {"a wrong part behind 2001", alt(append(times(empty, 2000), none)...), api.ErrMany},
		{"an anchor behind 2000", zero(alt(append(times(empty, 1998), begin)...)), api.ErrAnchor}, {"an anchor behind 2001", zero(alt(append(times(empty, 1999), begin)...)), api.ErrMany}, {"41 deep behind 2000", alt(append(times(empty, 1959), nested(a, 39, 0, 1))...), api.ErrDeep},
		{"2000 leaves", rep(wide(10), 200, 200), api.OK}, {"2001 leaves", cat(rep(wide(10), 200, 200), empty), api.ErrMany}, {"2000 leaves, one of them not written out", cat(rep(wide(1999), 1, 1), zero(a)), api.ErrMany}, {"1990 leaves and ten that are not written out", cat(rep(wide(10), 199, 199), rep(zero(a), 10, 10)), api.OK}, {"1990 leaves and eleven", cat(rep(wide(10), 199, 199), rep(zero(a), 11, 11)), api.ErrMany}, {"2000 leaves at least", rep(wide(10), 200, api.Infinite), api.OK}, {"2010 leaves at least", rep(wide(10), 201, api.Infinite), api.ErrMany}, {"2010 leaves at most", rep(wide(10), 0, 201), api.ErrMany}, {"1 to Infinite", rep(wide(1990), 1, api.Infinite), api.OK}, {"0 to Infinite", rep(wide(1990), 0, api.Infinite), api.OK},
		{"500 sets", cat(times(a, 500)...), api.OK}, {"501 sets", cat(times(a, 501)...), api.ErrMany}, {"500 sets, many leaves", alt(append(times(empty, 1499), times(a, 500)...)...), api.OK}, {"500 sets by counts", rep(cat(a, a), 3, 250), api.OK}, {"502 sets by counts", rep(cat(a, a), 3, 251), api.ErrMany}, {"501 sets, none of them written out", zero(cat(times(a, 501)...)), api.OK}, {"501 empty sets", cat(times(anyOf(api.Set{}), 501)...), api.ErrMany},
		{"501 sets within none", cat(a, zero(rep(cat(a, a), 255, 255))), api.OK}, {"255 to the 39", nested(a, 39, 255, 255), api.ErrMany}, {"255 to the 8, 2 to the 64 and more", nested(empty, 8, 255, api.Infinite), api.ErrMany}, {"128 to the 10: 2 to the 70", nested(empty, 10, 128, 128), api.ErrMany}, {"16 to the 16: 2 to the 64", nested(a, 16, 16, 16), api.ErrMany}, {"2 to the 32", nested(a, 32, 2, 2), api.ErrMany}, {"255 to the 37, none of them", zero(nested(a, 37, 255, 255)), api.OK}, {"one to the 39", nested(a, 39, 1, 1), api.OK},
	} {
		if e := Right(x.r); e != x.want {
			t.Errorf("Right of %s: %v, want %v", x.name, e, x.want)
		}
		if x.name != "2 to the 39 leaves" { // which the plain form can't count
			checkTree(t, x.r)
		}
	}
	if Positions(doubled) != 0 || Same(doubled, doubled) || Fold(doubled).Kind != 0 || Turned(doubled).Kind != 0 {
		t.Errorf("of too many parts something is told")
	}
}

func TestRightEnds(t *testing.T) { // P1: a list that has itself in it
	round := make([]api.Regex, 2)
	for k := range round {
		round[k] = cat(round...)
	}
	loop := make([]api.Regex, 1)
	loop[0] = rep(loop[0], 0, 1)
	loop[0].Kids = loop
	huge := alt(make([]api.Regex, 1<<20)...)
	for k := range huge.Kids {
		huge.Kids[k] = empty
	}
	for want, list := range map[api.Errno][]api.Regex{api.ErrDeep: {round[0], loop[0], alt(round...)}, api.ErrMany: {huge, cat(huge, huge)}} {
		for _, r := range list {
			_, printed := Print(r)
			if e := Right(r); e != want || printed != want || Positions(r) != 0 || Same(r, r) || Fold(r).Kind != 0 || Turned(r).Kind != 0 {
				t.Errorf("Right: %v, Print: %v, want %v", e, printed, want)
			}
		}
	}
}

func TestPositions(t *testing.T) { // 8.3
	for text, want := range map[string]int{"(ab){2,3}c*": 7, "a{0}": 0, "a{0,0}b": 1, "a{3,}": 3, "a*": 1, "a+": 1, "a{0,}": 1, "a?": 1, "^$": 0, "": 0, "()": 0, "a{255}": 255, "a|b|": 2, "((ab){2}c){3,4}": 20, "(a{0}b){7}": 7, "(()|){255}": 0, ".": 1, `[^\x00-\xff]`: 1, "(a*b{2,}){3}": 9} {
		r, e, _ := Parse(text)
		if n := Positions(r); e != api.OK || n != want {
			t.Errorf("Positions of %q = %d, want %d", text, n, want)
		}
	}
	if n := Positions(cat(one('a'), begin)); n != 0 {
		t.Errorf("Positions of a wrong tree = %d", n)
	}
}

func TestSame(t *testing.T) { // 8.3
	texts := []string{"", "a", "b", "[ab]", "^", "$", "ab", "ba", "a|b", "b|a", "abc", "(ab)c", "a(bc)", "a|b|c", "(a|b)|c", "a|(b|c)", "a*", "a+", "a?", "a{0}", "a{2}", "a{2,}", "a{2,3}", "a{0,2}", "b*", "(a*)*", "(a*)+", "()*", "(ab)*", "^ab", "ab$", "a|", "|a", "[^ab]", "."}
	for k, one := range texts {
		for n, two := range texts {
			a, e, _ := Parse(one)
			b, f, _ := Parse(two)
			if got := Same(a, b); e != api.OK || f != api.OK || got != (k == n) {
				t.Errorf("Same of %q and %q = %v", one, two, got)
			}
		}
	}
	wrong := api.Regex{}
	a := one('a')
	if Same(wrong, wrong) || Same(a, wrong) || Same(wrong, a) || Same(cat(a), cat(a)) || Same(cat(a, begin), cat(a, begin)) {
		t.Errorf("wrong trees are the same")
	}
	if !Same(api.Regex{Kind: api.RxEmpty, Kids: []api.Regex{}}, empty) { // P5
		t.Errorf("a list of nothing is not nil")
	}
	if x, e, _ := Parse("[ab]"); e != api.OK || !Same(x, anyOf(setOf("ba"))) {
		t.Errorf("the same set is another")
	}
}

func TestFoldAndTurned(t *testing.T) { // 8.4
	for _, x := range []struct{ text, fold, turned string }{
		{"a1", "[Aa]1", "1a"}, {"^ab$", "^[Aa][Bb]$", "^ba$"}, {"^ab", "^[Aa][Bb]", "ba$"}, {"ab$", "[Aa][Bb]$", "^ba"}, {"(ab|c)*d", "([Aa][Bb]|[Cc])*[Dd]", "d(ba|c)*"}, {"^", "^", "$"}, {"$", "$", "^"}, {"^$", "^$", "^$"}, {"", "()", "()"},
		{"a|b", "[Aa]|[Bb]", "a|b"}, {"^a|b$|c", "^[Aa]|[Bb]$|[Cc]", "a$|^b|c"}, {"(ab)(cd)e", "([Aa][Bb])([Cc][Dd])[Ee]", "e(dc)(ba)"}, {"(ab){2,3}c", "([Aa][Bb]){2,3}[Cc]", "c(ba){2,3}"}, {"ab{0}", "[Aa][Bb]{0}", "b{0}a"}, {"(a(bc)?)+", "([Aa]([Bb][Cc])?)+", "((cb)?a)+"},
		{"Z", "[Zz]", "Z"}, {"A", "[Aa]", "A"}, {"z", "[Zz]", "z"}, {"@", "@", "@"}, {`\[`, `\[`, `\[`}, {"`", "`", "`"}, {`\{`, `\{`, `\{`}, {`\xC1\xE1`, `\xC1\xE1`, `\xE1\xC1`}, {`\x01!`, `\x01!`, `!\x01`}, {"[^a]", ".", "[^a]"}, {"[^Aa]", "[^Aa]", "[^Aa]"}, {".", ".", "."}, {"[a-z]", "[A-Za-z]", "[a-z]"}, {"[@-M]", "[@-Ma-m]", "[@-M]"}, {"[x-~]", "[X-Zx-~]", "[x-~]"},
	} {
		r, e, _ := Parse(x.text)
		if e != api.OK {
			t.Fatalf("Parse(%q): %v", x.text, e)
		}
		if got, _ := Print(Fold(r)); got != x.fold {
			t.Errorf("Fold of %q: %q, want %q", x.text, got, x.fold)
		}
		if got, _ := Print(Turned(r)); got != x.turned {
			t.Errorf("Turned of %q: %q, want %q", x.text, got, x.turned)
		}
		checkTree(t, r)
	}
	for _, r := range []api.Regex{{}, {Kind: 99}, cat(one('a')), cat(end, one('a')), cat(times(one('a'), 501)...)} {
		if !plainSame(Fold(r), api.Regex{}) || !plainSame(Turned(r), api.Regex{}) {
			t.Errorf("of %v, which is wrong, Fold is %v, Turned %v", r, Fold(r), Turned(r))
		}
	}
}

func TestFoldAndTurnedAreNewMemory(t *testing.T) { // P3
	const text = "^(a|b)c(ab)*|(a|b)cd$"
	for name, change := range map[string]func(api.Regex) api.Regex{"Fold": Fold, "Turned": Turned} {
		r, _, _ := Parse(text)
		r.Kids = append(slices.Clip(r.Kids), r.Kids[1], api.Regex{Kind: 99})[:3] // two of its lists are one; something stands behind it
		before := changed(r, func(*api.Regex) {})
		answer := change(r)
		again := change(r)
		if !plainSame(r, before) || r.Kids[:4][3].Kind != 99 {
			t.Errorf("%s wrote into the tree", name)
		}
		spoil(&answer.Kids[1])
		_ = append(answer.Kids[0].Kids, empty, empty, empty)
		if !plainSame(answer.Kids[0], again.Kids[0]) || !plainSame(answer.Kids[2], again.Kids[2]) {
			t.Errorf("two lists of an answer of %s share memory", name)
		}
		spoil(&answer)
		if !plainSame(r, before) || !plainSame(change(r), again) {
			t.Errorf("an answer of %s shares memory with the tree or another answer", name)
		}
	}
}

func TestCallsLeaveTheTree(t *testing.T) { // P3
	r, _, _ := Parse("^(a|b)c{2}|d")
	before := changed(r, func(*api.Regex) {})
	Print(r)
	Right(r)
	Positions(r)
	Same(r, r)
	if !plainSame(r, before) {
		t.Errorf("a call wrote into its tree: %v", r)
	}
}

func TestPrint(t *testing.T) { // 8.5
	a, b, c := one('a'), one('b'), one('c')
	for _, x := range []struct {
		r    api.Regex
		want string
	}{
		{empty, "()"}, {begin, "^"}, {end, "$"}, {a, "a"}, {cat(begin, end), "^$"}, {cat(a, b, c), "abc"}, {cat(cat(a, b), c), "(ab)c"}, {cat(a, cat(b, c)), "a(bc)"}, {cat(alt(a, b), c), "(a|b)c"}, {cat(rep(a, 0, 1), b), "a?b"}, {cat(empty, a), "()a"}, {cat(cat(a, b), cat(b, c)), "(ab)(bc)"},
		{alt(a, b), "a|b"}, {alt(alt(a, b), c), "(a|b)|c"}, {alt(a, alt(b, c)), "a|(b|c)"}, {alt(cat(a, b), c), "ab|c"}, {alt(a, empty), "a|()"}, {alt(empty, empty), "()|()"}, {alt(rep(a, 0, 1), b), "a?|b"}, {alt(cat(begin, a), end), "^a|$"},
		{rep(a, 0, api.Infinite), "a*"}, {rep(a, 1, api.Infinite), "a+"}, {rep(a, 0, 1), "a?"}, {rep(a, 2, 2), "a{2}"}, {rep(a, 0, 0), "a{0}"}, {rep(a, 1, 1), "a{1}"}, {rep(a, 2, api.Infinite), "a{2,}"}, {rep(a, 0, 2), "a{0,2}"}, {rep(a, 1, 2), "a{1,2}"}, {rep(a, 254, 255), "a{254,255}"}, {rep(a, 255, api.Infinite), "a{255,}"},
		{rep(rep(a, 0, api.Infinite), 0, api.Infinite), "(a*)*"}, {rep(cat(a, b), 0, 1), "(ab)?"}, {rep(alt(a, b), 1, api.Infinite), "(a|b)+"}, {rep(empty, 0, api.Infinite), "()*"}, {rep(anyOf(setOf("ab")), 3, 3), "[ab]{3}"}, {rep(one('*'), 0, api.Infinite), `\**`},
	} {
		if text, e := Print(x.r); e != api.OK || text != x.want {
			t.Errorf("Print(%v): %q, %v, want %q", x.r, text, e, x.want)
		}
		checkTree(t, x.r)
	}
}

func TestPrintSets(t *testing.T) { // 8.5
	upTo := func(n int) api.Set { return setWhere(func(b int) bool { return b < n }) }
	for _, x := range []struct {
		set  api.Set
		want string
	}{
		{api.Set{}, `[^\x00-\xFF]`}, {upTo(256), "."}, {upTo(255), `[^\xFF]`}, {upTo(1), `\x00`}, {upTo(2), `[\x00\x01]`}, {upTo(3), `[\x00-\x02]`}, {upTo(128), `[\x00-\x7F]`}, {upTo(129), `[^\x81-\xFF]`}, {upTo(127), `[\x00-~]`}, {setWhere(func(b int) bool { return b >= 128 }), `[\x80-\xFF]`}, {setWhere(func(b int) bool { return b >= 127 }), `[^\x00-~]`},
		{setOf("-abc"), `[\-a-c]`}, {setOf("ab"), "[ab]"}, {setOf("abd"), "[abd]"}, {setOf("acde"), "[ac-e]"}, {setOf("0123456789"), "[0-9]"}, {setOf("\t\n\v\f\r "), `[\t-\r ]`}, {setOf("\t\n"), `[\t\n]`}, {setOf(`\][^-`), `[\-\[-\^]`}, {setOf(`[]`), `[\[\]]`}, {setOf(`\^`), `[\\\^]`}, {setOf("()|*+?{$."), `[$(-+.?{|]`}, {setWhere(func(b int) bool { return b != '-' }), `[^\-]`}, {setWhere(func(b int) bool { return b != '-' && b != '^' }), `[^\-\^]`}, {set(254, 255), `[\xFE\xFF]`}, {set(253, 254, 255), `[\xFD-\xFF]`}, {set(63, 64, 65, 127, 128, 191, 192), `[?-A\x7F\x80\xBF\xC0]`},
		{setOf("]"), "]"}, {setOf("-"), "-"}, {setOf("}"), "}"}, {setOf(" "), " "}, {setOf("~"), "~"}, {setOf("\x7f"), `\x7F`}, {setOf("\n"), `\n`}, {setOf("\t"), `\t`}, {setOf("\r"), `\r`}, {setOf("\v"), `\x0B`}, {set(0xAB), `\xAB`},
	} {
		if text, e := Print(anyOf(x.set)); e != api.OK || text != x.want {
			t.Errorf("Print of the set of %v: %q, %v, want %q", bytesOf(x.set), text, e, x.want)
		}
		checkTree(t, anyOf(x.set))
	}
	for b := range 256 {
		text, e := Print(one(byte(b)))
		if strings.IndexByte(`\[()|*+?{^$.`, byte(b)) >= 0 && text != `\`+string(rune(b)) || e != api.OK {
			t.Errorf("Print of the byte %d: %q, %v", b, text, e)
		}
		checkTree(t, one(byte(b)))
		checkTree(t, anyOf(setWhere(func(other int) bool { return other != b })))
		for c := range b {
			checkPrint(t, anyOf(set(c, b)))
			checkPrint(t, anyOf(setWhere(func(other int) bool { return other >= c && other <= b })))
		}
	}
}

func TestPrintRandomSets(t *testing.T) { // 8.5, 8.6
	r := rand.New(rand.NewSource(3))
	for n := range 257 {
		for range 8 {
			checkTree(t, anyOf(set(r.Perm(256)[:n]...)))
		}
	}
}

func TestPrintLimits(t *testing.T) { // 8.5
	digits := anyOf(setOf("0123456789"))
	for _, x := range []struct {
		r    api.Regex
		want int // the text's length; 0: too long
	}{
		{alt(times(one('a'), 256)...), 511}, {alt(times(empty, 341)...), 1022}, {cat(times(empty, 512)...), 1024}, {cat(append(times(empty, 512), one('a'))...), 0}, {cat(append(times(empty, 511), one('a'), one('a'))...), 1024}, {cat(append(times(empty, 511), one('a'), one('a'), one('a'))...), 0},
		{cat(times(digits, 204)...), 1020}, {cat(times(digits, 205)...), 0}, {cat(times(digits, 500)...), 0}, {rep(cat(times(anyOf(set(1, 3, 5, 7, 9, 11)), 1998)...), 0, 0), 0},
	} {
		text, e := Print(x.r)
		if want := map[bool]api.Errno{true: api.ErrLong, false: api.OK}[x.want == 0]; e != want || len(text) != x.want {
			t.Errorf("Print of %d Kids: %d bytes, %v, want %d, %v", len(x.r.Kids), len(text), e, x.want, want)
		}
		checkTree(t, x.r)
	}
	if text, e := Print(cat(append(times(empty, 600), begin)...)); text != "" || e != api.ErrAnchor { // Right's error ahead
		t.Errorf("Print of a wrong tree that is too long: %q, %v", text, e)
	}
}

// randomTree is one of so many parts within one another at most; if it may be wrong, some are.
func randomTree(r *rand.Rand, deep int, mayBeWrong bool) api.Regex {
	tree := randomPart(r, deep, mayBeWrong)
	if r.Intn(3) > 0 {
		return tree
	}
	edges := []api.Regex{randomPart(r, deep, mayBeWrong)}
	if r.Intn(2) == 0 {
		edges = append([]api.Regex{begin}, edges...)
	}
	if r.Intn(2) == 0 || len(edges) == 1 {
		edges = append(edges, end)
	}
	if r.Intn(2) == 0 {
		return cat(edges...)
	}
	return alt(tree, cat(edges...), []api.Regex{begin, end, empty}[r.Intn(3)])
}

func randomPart(r *rand.Rand, deep int, mayBeWrong bool) api.Regex {
	if mayBeWrong && r.Intn(12) == 0 {
		return randomWrong(r, deep)
	}
	kind := r.Intn(6)
	if deep <= 1 {
		kind = r.Intn(2)
	}
	kids := func() []api.Regex {
		var list []api.Regex
		for range 2 + r.Intn(2) {
			list = append(list, randomPart(r, deep-1, mayBeWrong))
		}
		return list
	}
	switch kind {
	case 0:
		return []api.Regex{empty, one('a'), anyOf(setOf("xyz"))}[r.Intn(3)]
	case 1:
		return anyOf(set(r.Perm(256)[:[]int{1, 1, 2, 3, 0, 4, 254, 255, 256}[r.Intn(9)]]...))
	case 2, 3:
		return cat(kids()...)
	case 4:
		return alt(kids()...)
	}
	low := []int{0, 0, 1, 2, 3}[r.Intn(5)]
	high := []int{api.Infinite, low, low + 1, low + 2}[r.Intn(4)]
	return rep(randomPart(r, deep-1, mayBeWrong), low, high)
}

func randomWrong(r *rand.Rand, deep int) api.Regex {
	part := randomPart(r, deep-1, false)
	switch r.Intn(8) {
	case 0:
		part.Kind = r.Intn(12) - 2
	case 1:
		part.Set = set(r.Intn(256))
	case 2:
		part.Min = r.Intn(4) - 1
	case 3:
		part.Max = []int{-2, 1, 255, 256}[r.Intn(4)]
	case 4:
		part.Kids = times(empty, r.Intn(4))
	case 5:
		return begin
	case 6:
		return end
	default:
		return nested(part, 36+r.Intn(5), 1, 1)
	}
	return part
}

func TestRandomTrees(t *testing.T) { // 8.2 to 8.6
	r := rand.New(rand.NewSource(4))
	right, wrong := 0, 0
	for k := range 16000 {
		tree := randomTree(r, 1+r.Intn(6), k%2 == 0)
		checkTree(t, tree)
		other := randomTree(r, 3, false)
		if got := Same(tree, other); got != (Right(tree) == api.OK && Right(other) == api.OK && plainSame(tree, other)) {
			t.Fatalf("Same(%v, %v) = %v", tree, other, got)
		}
		if Right(tree) == api.OK {
			right++
		} else {
			wrong++
		}
	}
	if right < 5000 || wrong < 2000 {
		t.Errorf("%d right and %d wrong trees are too few", right, wrong)
	}
}
