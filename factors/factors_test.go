package factors

import (
	"slices"
	"strings"
	"testing"

	"dragnet/api"
	"dragnet/syntax"
)

// none is a class of no byte.
const none = `[^\x00-\xff]`

// told is what is told of a regex; lists as line writes them.
type told struct{ text, want string }

// line is a list of words, each in brackets; "-" for nothing and false.
func line(list []string, ok bool) string {
	if !ok {
		if len(list) != 0 {
			return "words, and false"
		}
		return "-"
	}
	var b strings.Builder
	for _, word := range list {
		b.WriteString("<" + word + ">")
	}
	return b.String()
}

func TestExact(t *testing.T) { // 11.1
	long, longer := strings.Repeat("a", 32), strings.Repeat("a", 33)
	for _, x := range []told{
		{`a(b|c)?`, "<a><ab><ac>"}, {`a*`, "-"}, {`.`, "-"}, {`(a|b){5}`, "-"}, {`^ab$`, "<ab>"}, {`()`, "<>"}, {``, "<>"},
		{`^`, "<>"}, {`$`, "<>"}, {`^$`, "<>"}, {`^a|b$`, "<a><b>"},
		// No texts.
		{none, ""}, {`a` + none, ""}, {none + `a`, ""}, {`.*` + none, ""}, {none + `.*`, ""}, {longer + none, ""}, {none + `+`, ""}, {none + `{3}`, ""}, {none + `{1,2}`, ""}, {none + `|` + none, ""}, {`(a|` + none + `)` + none, ""},
		// Parts without texts beside others.
		{none + `*`, "<>"}, {none + `?`, "<>"}, {none + `{0,5}`, "<>"}, {`(.*` + none + `)*`, "<>"}, {`a|` + none, "<a>"}, {`.*` + none + `|b`, "<b>"}, {longer + none + `|b`, "<b>"}, {`(` + none + `|a){2}`, "<aa>"},
		// Counts.
		{`(.*){0}`, "<>"}, {`a{0}`, "<>"}, {`()*`, "<>"}, {`(){7,}`, "<>"}, {`(()|(){2})+`, "<>"}, {`a{1}`, "<a>"}, {`a{2,4}`, "<aa><aaa><aaaa>"}, {`a+`, "-"}, {`a{2,}`, "-"}, {`(a|){2}`, "<><a><aa>"}, {`(a?)*`, "-"}, {`(ab|c){1,2}`, "<ab><abab><abc><c><cab><cc>"}, {`(a{0,3}){0,2}`, "<><a><aa><aaa><aaaa><aaaaa><aaaaaa>"},
		// The same text more than once.
		{`b|a|b`, "<a><b>"}, {`(a|aa)(a|aa)`, "<aa><aaa><aaaa>"}, {`a{0,7}a{0,7}b|c{0}`, "<><aaaaaaaaaaaaaab><aaaaaaaaaaaaab><aaaaaaaaaaaab><aaaaaaaaaaab><aaaaaaaaaab><aaaaaaaaab><aaaaaaaab><aaaaaaab><aaaaaab><aaaaab><aaaab><aaab><aab><ab><b>"},
		// Any bytes, in their order.
		{`b|B|\xff|\x80|\x7f|\x00|\n`, "<\x00><\n><B><b><\x7f><\x80><\xff>"}, {`ba|b|a|aa|\xff|a\x00`, "<a><a\x00><aa><b><ba><\xff>"}, {`\xc3\xa4`, "<\xc3\xa4>"},
		// At most 32 bytes.
		{`a{32}`, "<" + long + ">"}, {`a{33}`, "-"}, {long, "<" + long + ">"}, {longer, "-"}, {`(a{16}){2}`, "<" + long + ">"}, {`a{16}a{17}`, "-"}, {`b|` + longer, "-"}, {`a{31}(a|bb)`, "-"}, {`(a{11}){1,3}`, "-"}, {`a{255}`, "-"}, {`(){0,255}a`, "<a>"},
	} {
		r := read(t, x.text)
		if got := line(Exact(r)); got != x.want {
			t.Errorf("Exact of %s: %q, want %q", x.text, got, x.want)
		}
		check(t, r)
	}
}

func TestExactOfSixteen(t *testing.T) { // 11.1: 16 texts are few, 17 are not, however they are put together
	for _, x := range []struct {
		text string
		want int // -1: not few
	}{
		{`(a|b){4}`, 16}, {`(a|b){5}`, -1}, {`[a-p]`, 16}, {`[a-q]`, -1}, {`[a-p]?`, -1}, {`[a-o]?`, 16}, {`a{0,15}`, 16}, {`a{0,16}`, -1}, {`a{5,20}`, 16}, {`a{5,21}`, -1}, {`(a?){15}`, 16}, {`(a?){16}`, -1}, {`[ab][cd][ef][gh]`, 16}, {`[ab][cd][ef][gh]i`, 16}, {`[ab][cd][ef][ghi]`, -1}, {`[a-d][a-d]`, 16}, {`[a-d][a-e]`, -1}, {`[a-h]|[i-p]`, 16}, {`[a-i]|[i-q]`, -1}, {`[a-p]|[a-p]`, 16}, {`[a-p]{1}`, 16}, {`[a-p]b?`, -1}, {`a{0,7}a{0,8}`, 16}, {`a{0,8}a{0,8}`, -1}, {`[^\x10-\xff]`, 16}, {`[^\x11-\xff]`, -1}, {`[\xf0-\xff]`, 16}, {`([ab]c?){2}`, 16}, {`([ab]c?){1,2}`, -1}, {`(.` + none + `|[a-q]` + none + `)|[a-p]`, 16}, {`[a-q]` + none, 0},
	} {
		texts, few := Exact(read(t, x.text))
		if few != (x.want >= 0) || len(texts) != max(x.want, 0) {
			t.Errorf("Exact of %s: %q, %v", x.text, texts, few)
		}
		if !slices.IsSorted(texts) || len(slices.Compact(slices.Clone(texts))) != len(texts) {
			t.Errorf("Exact of %s is not laid out: %q", x.text, texts)
		}
		check(t, read(t, x.text))
	}
}

func TestNeed(t *testing.T) { // 11.2
	for _, x := range []told{
		{`abc|abd`, "<abc><abd>"}, {`x*(get|put)y+`, "<get><put>"}, {`ab.cde`, "<cde>"}, {`a.b`, "<a>"}, {`ab|c*`, "-"}, {`(foo)+bar`, "<bar>"}, {`a|ab`, "<a>"}, {`ab|xabx|cd.*`, "<ab><cd>"},
		// What has an empty text, or nothing for sure.
		{`()`, "-"}, {`^$`, "-"}, {`^`, "-"}, {`.`, "-"}, {`.*`, "-"}, {`a?`, "-"}, {`a*`, "-"}, {`a|`, "-"}, {`a?b?`, "-"}, {`(a?b?)+`, "-"}, {`a{0}`, "-"}, {`[a-q]`, "-"}, {`[a-p]`, "<a><b><c><d><e><f><g><h><i><j><k><l><m><n><o><p>"}, {`..`, "-"}, {`.a?.`, "-"},
		// No texts: no words, and true.
		{none, ""}, {`.*` + none, ""}, {`(a.|b)` + none, ""}, {none + `+`, ""}, {none + `|` + none, ""}, {none + `*`, "-"}, {none + `?a.`, "<a>"}, {`(` + none + `|ab.)+`, "<ab>"}, {`a.|` + none + `.*|b.`, "<a><b>"}, {`a.|` + none + `*`, "-"}, {`.|` + none, "-"},
		// Reduced.
		{`abc|b`, "<b>"}, {`a|b|ab`, "<a><b>"}, {`abc|bcd|c`, "<c>"}, {`abcd|bc|abc|bcd`, "<bc>"}, {`aa|aaa`, "<aa>"}, {`ab|ba|aba`, "<ab><ba>"}, {`a{2,5}`, "<aa>"}, {`(abc|b).`, "<b>"}, {`\xff\x00|\x00`, "<\x00>"},
		// Runs.
		{`^(err|warn): .*$`, "<err: ><warn: >"}, {`a?b.`, "<b>"}, {`a?.b`, "<b>"}, {`a?b?.c?d?`, "-"}, {`ab()cd.`, "<abcd>"}, {`ab().()cd`, "<ab>"}, {`(ab)(cd)(e|f).`, "<abcde><abcdf>"}, {`a(b(c.))`, "<a>"}, {`a(b(cd.))`, "<cd>"}, {`x{3}y{2}.`, "<xxxyy>"},
		// A part that a run can't take begins the next one.
		{`[ab][ab][ab][ab][cd]efghi.`, "<cefghi><defghi>"}, {`[ab][ab][ab][ab][ab]`, "<aaaa><aaab><aaba><aabb><abaa><abab><abba><abbb><baaa><baab><baba><babb><bbaa><bbab><bbba><bbbb>"}, {`[ab]{4}[ab]cdefg`, "<acdefg><bcdefg>"}, {`[a-q]bc[a-q]`, "<bc>"}, {strings.Repeat("a", 32) + "bc", "<" + strings.Repeat("a", 32) + ">"}, {strings.Repeat("a", 20) + strings.Repeat("b", 44), "<" + strings.Repeat("a", 20) + strings.Repeat("b", 12) + ">"}, {`a{30}bcd?`, "<" + strings.Repeat("a", 30) + "bc>"}, {`a{40}bc`, "<bc>"}, {`(ab){15}(cd|ef)gh`, "<" + strings.Repeat("ab", 15) + "cd><" + strings.Repeat("ab", 15) + "ef>"},
		// The better one: its shortest word is longer; it has fewer words; it is named first.
		{`[ab]cd.x`, "<acd><bcd>"}, {`(a|bcdef).gh`, "<gh>"}, {`[ab]c.de`, "<de>"}, {`de.[ab]c`, "<de>"}, {`[ab]c.[ef]g`, "<ac><bc>"}, {`ab.cd`, "<ab>"}, {`cd.ab`, "<cd>"}, {`(ab|abx|yab).cd`, "<ab>"}, {`(cd|xy|wz).(ab|xy|yab)`, "<ab><xy>"}, {`(foobar)+.ab`, "<foobar>"}, {`(ab)+.(cd)+`, "<ab>"}, {`((ab|cd).)+.(ef)+`, "<ef>"}, {`(ab)+.cd`, "<cd>"}, {`(ab)+.c`, "<ab>"}, {`(abc.)(.def)`, "<abc>"}, {`(a.)(.def)`, "<def>"},
		// Alternatives.
		{`a.|b.`, "<a><b>"}, {`a.|.`, "-"}, {`a.|b*`, "-"}, {`a.|`, "-"}, {`^ab.|.cd$|abc`, "<ab><cd>"}, {`(a.|b.)|c`, "<a><b><c>"}, {`(ab.|b.)c`, "<c>"}, {`(ab.|b.)+`, "<b>"}, {`a{33}|b`, "<a><b>"}, {`a{33}|aab`, "<a>"},
		// Counts.
		{`(ab.)+`, "<ab>"}, {`(ab.){2}`, "<ab>"}, {`(ab.){1,2}`, "<ab>"}, {`(ab.)?`, "-"}, {`(ab.)*`, "-"}, {`(ab.){0,3}`, "-"}, {`(ab)+`, "<ab>"}, {`(ab){16}`, "<" + strings.Repeat("ab", 16) + ">"}, {`(ab){17}`, "<ab>"}, {`(ab){1,16}`, "<ab>"}, {`(a|b){5}`, "<a><b>"}, {`(ab|){2}`, "-"}, {`((ab)?){3}`, "-"}, {`((ab.)+)+`, "<ab>"}, {`((ab.)*)+`, "-"}, {`.+`, "-"},
	} {
		r := read(t, x.text)
		if got := line(Need(r)); got != x.want {
			t.Errorf("Need of %s: %q, want %q", x.text, got, x.want)
		}
		check(t, r)
	}
}

// bytesWith is the alternatives of some bytes, each with something behind it.
func bytesWith(from, to byte, behind string) string {
	var list []string
	for b := from; b <= to; b++ {
		list = append(list, string([]byte{b})+behind)
	}
	return strings.Join(list, "|")
}

func TestNeedOfSixteen(t *testing.T) { // 11.2: of alternatives at most 16 words may be left
	for _, x := range []struct {
		text string
		want int // -1: nothing
	}{
		{bytesWith('a', 'p', "."), 16}, {bytesWith('a', 'q', "."), -1}, {bytesWith('a', 'p', ""), 16}, {bytesWith('a', 'q', ""), -1},
		{bytesWith('a', 'z', "0.") + "|0", 1}, {bytesWith('a', 'z', "0") + "|0", 1}, {bytesWith('a', 'p', ".") + "|xa", 16}, {bytesWith('a', 'p', ".") + "|xa|x.", -1}, {bytesWith('a', 'p', ".") + "|.", -1},
		{`([a-p].|b.)`, 16}, {`([a-p].|q.)`, -1}, {`([a-q].|b.)`, -1}, {`([a-h].|[i-p]x*)`, 16}, {`(` + bytesWith('a', 'q', ".") + `)x`, 1}, {`(` + bytesWith('a', 'q', ".") + `)|x`, -1}, {`(` + bytesWith('a', 'q', ".") + `)+`, -1},
	} {
		words, ok := Need(read(t, x.text))
		if ok != (x.want >= 0) || len(words) != max(x.want, 0) {
			t.Errorf("Need of %s: %q, %v", x.text, words, ok)
		}
		check(t, read(t, x.text))
	}
}

func TestPrefix(t *testing.T) { // 11.3
	for _, x := range []told{
		{`ab(c|d)`, "ab"}, {`(a|ab)b`, "ab"}, {`a*b`, ""}, {`a+b`, "a"}, {`abc|abd`, "ab"},
		{``, ""}, {`()`, ""}, {`^`, ""}, {`^$`, ""}, {`^ab$`, "ab"}, {`^ab.*`, "ab"}, {`^ab|ac$`, "a"}, {`abc`, "abc"}, {`.`, ""}, {`[ab]c`, ""}, {`a[bc]d`, "a"}, {`a.`, "a"}, {`\x00\xff[\n]`, "\x00\xff\n"},
		// No texts.
		{none, ""}, {`a` + none, ""}, {`ab` + none + `|` + none, ""}, {`a(` + none + `)+`, ""}, {`ab` + none + `*`, "ab"}, {`a` + none + `|bc`, "bc"}, {`bc|a` + none, "bc"}, {`(a|b` + none + `)c`, "ac"}, {none + `?ab`, "ab"}, {`(x` + none + `)*ab`, "ab"}, {`(x` + none + `){0,3}ab`, "ab"}, {`(x` + none + `){0}ab`, "ab"}, {`(x|y` + none + `){2}`, "xx"},
		// What ends early.
		{`a|ab`, "a"}, {`ab|a`, "a"}, {`a?`, ""}, {`ab?`, "a"}, {`ab?b`, "ab"}, {`(ab)?ac`, "a"}, {`a(b|)`, "a"}, {`(a|ab)(b|c)`, "a"}, {`(a|ab)(bc|bcbc)`, "ab"}, {`(ab|abab)abc`, "abab"}, {`(ab|a)(ba|aba)`, "a"},
		// Counts.
		{`(ab){3}`, "ababab"}, {`a{2,3}`, "aa"}, {`a{2,}b`, "aa"}, {`a{0,3}aaaa`, "aaaa"}, {`a{0,3}aab`, "aa"}, {`(a|aa){3}aab`, "aaaaa"}, {`a*`, ""}, {`a*a`, "a"}, {`a*ab`, "a"}, {`a*aaab`, "aaa"}, {`(ab)*ab`, "ab"}, {`(ab)*a`, "a"}, {`(ab)*aba`, "aba"}, {`(ab)*abab`, "abab"}, {`(ab)*ac`, "a"}, {`(ab)+a`, "aba"}, {`(ab)+c`, "ab"}, {`(ab)+ab`, "abab"}, {`(aab)*ab`, "a"}, {`(aab)+ab`, "aaba"}, {`(aab){2,}ab`, "aabaaba"}, {`(a+)+b`, "a"}, {`(a+b)+`, "a"}, {`(ab+)+a`, "ab"}, {`(ab?){2}c`, "a"}, {`(ab?a){2}`, "a"}, {`(ab){0}c`, "c"}, {`(){3}ab`, "ab"}, {`()*ab`, "ab"}, {`(a?){3}ab`, "a"}, {`(a?){3}aaa`, "aaa"}, {`(a|ab){2}`, "a"}, {`(a|ab){2}b`, "a"}, {`(aa|aaa){2,3}b`, "aaaa"}, {`((ab){2}c){2}d?`, "ababcababc"}, {`((a|ab)b){2,4}`, "ab"},
		// Long ones.
		{`(ab){250}`, strings.Repeat("ab", 250)}, {`x{200}y*`, strings.Repeat("x", 200)}, {`a*a{255}a{244}`, strings.Repeat("a", 499)}, {`(a{10}){50}`, strings.Repeat("a", 500)}, {`((a{10}){2}b?){20}`, strings.Repeat("a", 20)}, {`a{33}(b|c)`, strings.Repeat("a", 33)},
	} {
		r := read(t, x.text)
		if got := Prefix(r); got != x.want {
			t.Errorf("Prefix of %s: %q, want %q", x.text, got, x.want)
		}
		check(t, r)
	}
}

// wrongTrees are refused by syntax.Right, each for another reason.
func wrongTrees() map[string]api.Regex {
	a := one('a')
	loop := make([]api.Regex, 1)
	loop[0] = rep(a, 0, 1)
	loop[0].Kids = loop
	odd := a
	odd.Min = 1
	return map[string]api.Regex{
		"nothing": {}, "no kind": {Kind: 8}, "below all kinds": {Kind: -1}, "a row of one": cat(a), "a choice of none": alt(), "a set with a count": odd, "a set with a kid": {Kind: api.RxSet, Set: a.Set, Kids: []api.Regex{a}}, "empty with a set": {Kind: api.RxEmpty, Set: a.Set},
		"more than most": rep(a, 2, 1), "below none": rep(a, -1, 2), "below Infinite": rep(a, 0, -2), "256 times": rep(a, 256, 256), "wrong in a branch": alt(a, cat(a, api.Regex{})), "wrong beside no texts": cat(void, api.Regex{}), "wrong in no times": rep(api.Regex{}, 0, 0),
		"41 deep": nested(a, 40, 1, 1), "within itself": loop[0],
		"begin behind": cat(a, begun), "end ahead": cat(ended, a), "begin in a row in a row": cat(cat(begun, a), a), "end in a choice in a choice": alt(a, alt(a, ended)), "begin repeated": rep(begun, 1, 1),
		"501 positions": cat(times(a, 501)...), "2001 leaves": rep(alt(times(empty, 29)...), 69, 69), "255 to the 39": nested(a, 39, 255, 255), "2000 leaves, one part more": cat(times(empty, 2000)...),
	}
}

func TestWrongTrees(t *testing.T) { // 11.1 to 11.3
	for name, r := range wrongTrees() {
		if syntax.Right(r) == api.OK {
			t.Fatalf("%s is right", name)
		}
		if list, ok := Exact(r); len(list) != 0 || ok {
			t.Errorf("Exact of %s: %q, %v", name, list, ok)
		}
		if list, ok := Need(r); len(list) != 0 || ok {
			t.Errorf("Need of %s: %q, %v", name, list, ok)
		}
		if text := Prefix(r); text != "" {
			t.Errorf("Prefix of %s: %q", name, text)
		}
	}
}

func TestAnswersAreNewMemory(t *testing.T) { // P3, P4
	for _, text := range []string{`abc|abd`, `x*(get|put)y+`, `(ab.)+`, `[a-d]`, `()`, none, `a.|b.|ab`} {
		r := read(t, text)
		before := copied(r)
		for _, ask := range []func(api.Regex) ([]string, bool){Exact, Need} {
			first, _ := ask(r)
			kept := slices.Clone(first)
			second, _ := ask(r)
			for k := range second[:cap(second)] {
				second[:cap(second)][k] = "spoilt"
			}
			if again, _ := ask(r); !slices.Equal(first, kept) || !slices.Equal(again, kept) {
				t.Errorf("%s: %q, then %q, then %q", text, kept, first, again)
			}
		}
		if Prefix(r); !syntax.Same(r, before) {
			t.Errorf("%s was changed", text)
		}
	}
}
