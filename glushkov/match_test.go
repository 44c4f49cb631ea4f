package glushkov

import (
	"math/rand"
	"regexp"
	"slices"
	"strings"
	"sync"
	"testing"

	"dragnet/api"
	"dragnet/syntax"
)

func TestFindOfTheExamples(t *testing.T) { // 9.3, and examples 1 and 3
	for _, x := range []struct {
		text, s  string
		from     int
		i, j     int
		found    bool
		at       int
		expected []int
	}{
		{"a(b|c)*d", "xabcd abd", 0, 1, 5, true, 1, []int{5}}, {"a(b|c)*d", "xabcd abd", 2, 6, 9, true, 2, nil}, {"a(b|c)*d", "xabcd abd", 7, 0, 0, false, 6, []int{9}},
		{"x*", "axx", 0, 0, 0, true, 0, []int{0}}, {"x*", "axx", 1, 1, 3, true, 1, []int{1, 2, 3}}, {"x*", "axx", 3, 3, 3, true, 3, []int{3}}, {"x*", "axx", 4, 0, 0, false, 4, nil}, {"x*", "axxb", 1, 1, 3, true, 1, []int{1, 2, 3}},
		{"^$", "", 0, 0, 0, true, 0, []int{0}}, {"^$", "a", 0, 0, 0, false, 1, nil}, {"^", "a", 0, 0, 0, true, 1, nil}, {"^", "a", 1, 0, 0, false, 0, []int{0}}, {"$", "ab", 0, 2, 2, true, 1, nil}, {"$", "ab", 2, 2, 2, true, 2, []int{2}}, {"$", "", -9, 0, 0, true, 0, []int{0}},
		{"^a|b$", "acb", 0, 0, 1, true, 2, []int{3}}, {"^a|b$", "acb", 1, 2, 3, true, 1, nil}, {"^a|b$", "aba", 1, 0, 0, false, 1, nil}, {"^a*$", "aab", 0, 0, 0, false, 0, nil}, {"^a*$", "aaa", 0, 0, 3, true, 1, nil}, {"^a*|a*$", "aab", 0, 0, 2, true, 0, []int{0, 1, 2}}, {"^a*|a*$", "baa", 0, 0, 0, true, 1, []int{3}},
		{"abcd|c", "abcd", 0, 0, 4, true, 2, []int{3}}, {"abcd|c", "abce", 0, 2, 3, true, 0, nil}, {"abcde|bcd|c", "abcdx", 0, 1, 4, true, 1, []int{4}}, {"abcde|bcd|c|", "abcde", 0, 0, 5, true, 0, []int{0, 5}}, {"a+b|a", "aaab", 0, 0, 4, true, 0, []int{1, 4}}, {"ab$|b", "ab b", 0, 1, 2, true, 0, nil}, {"ab$|b", "b ab", 1, 2, 4, true, 3, []int{4}}, {"a.*z|b", "ab", 0, 1, 2, true, 0, nil},
		{".", "\n", 0, 0, 1, true, 0, []int{1}}, {".*", "\x00\xff", 1, 1, 2, true, 0, []int{0, 1, 2}}, {"[^a]", "a\xff", 0, 1, 2, true, 0, nil}, {`[^\x00-\xFF]`, "abc", 0, 0, 0, false, 0, nil}, {`[^\x00-\xFF]*b`, "abc", 0, 1, 2, true, 1, []int{2}},
	} {
		r := read(t, x.text)
		m := built(t, r)
		if i, j, found := m.Find(x.s, x.from); i != x.i || j != x.j || found != x.found {
			t.Errorf("%s: Find(%q, %d) = %d, %d, %v", x.text, x.s, x.from, i, j, found)
		}
		if got := listed(m, x.s, x.at); !slices.Equal(got, x.expected) {
			t.Errorf("%s: Ends(%q, %d) = %v", x.text, x.s, x.at, got)
		}
		checkText(t, m, r, x.s)
	}
}

func TestHasOfTheExamples(t *testing.T) { // 9.3, and example 3
	for _, x := range []struct {
		text, s string
		want    bool
	}{
		{"^a|b$", "ca", false}, {"^a|b$", "ac", true}, {"^a|b$", "cb", true}, {"^a|b$", "bc", false}, {"^a|b$", "", false}, {"^$", "", true}, {"^$", "a", false}, {"x*", "", true}, {"x*", "a", true}, {"^", "a", true}, {"$", "a", true}, {"x", "", false}, {"^xy", "xxy", false}, {"xy$", "xyx", false}, {"xy$", "xxy", true},
	} {
		m := built(t, read(t, x.text))
		if got := m.Has(x.s); got != x.want {
			t.Errorf("%s: Has(%q) = %v", x.text, x.s, got)
		}
	}
}

func TestAnchorsInEachBranch(t *testing.T) { // 9.3: each kind of branch beside each other kind
	branches := []api.Regex{begin, end, empty, one('a'), rep(one('b'), 0, api.Infinite), cat(begin, end), cat(begin, one('a')), cat(one('a'), end), cat(begin, rep(one('a'), 0, 1), end), cat(begin, rep(one('b'), 0, 2)), cat(rep(one('a'), 0, api.Infinite), end), cat(one('b'), one('a')), alt(one('b'), empty)}
	texts := textsOver([]string{"a", "b"}, 4)
	for _, x := range branches {
		m := checkBuilt(t, x)
		for _, s := range texts {
			checkText(t, m, x, s)
		}
		for _, y := range branches {
			r := alt(x, y)
			m := checkBuilt(t, r)
			for _, s := range texts {
				checkText(t, m, r, s)
			}
		}
	}
}

func TestEachByte(t *testing.T) { // 9.3
	var b strings.Builder
	for k := range 256 {
		b.WriteByte(byte(k))
	}
	every := b.String()
	for k := range 256 {
		m, rest := built(t, one(byte(k))), built(t, anyOf(setWhere(func(other int) bool { return other != k })))
		if i, j, found := m.Find(every, 0); i != k || j != k+1 || !found {
			t.Errorf("the byte %d: %d, %d, %v", k, i, j, found)
		}
		if m.Has(every[:k]+every[k+1:]) || !m.Has(every[k:k+1]) || rest.Has(every[k:k+1]) || !rest.Has(every) {
			t.Errorf("the byte %d is where it is not", k)
		}
		if got := listed(rest, every, k); len(got) != 0 {
			t.Errorf("any byte but %d: Ends = %v", k, got)
		}
	}
}

// TestLongTexts has regexes of which a machine that begins anew at each place, or one that goes back, would not see the end.
func TestLongTexts(t *testing.T) { // 9.3: one step a byte
	const n = 300000
	as := strings.Repeat("a", n)
	for _, text := range []string{"a*b", "(a*)*b", "(a|aa)*b", "(a?){50}a*b", "a(a|b)*c", ".*.*.*x", "^(a+)+$|b", "a{3}(a*a*)*$|c"} {
		m := built(t, read(t, text))
		s := as + "-"
		if i, j, found := m.Find(s, 0); found || m.Has(s) {
			t.Errorf("%s: Find = %d, %d, %v, Has = %v", text, i, j, found, m.Has(s))
		}
	}
	for _, x := range []struct {
		text string
		i, j int
	}{
		{"a*b", 0, n + 1}, {"(a|aa)*b", 0, n + 1}, {"aab", n - 2, n + 1}, {"ab|a*c", n - 1, n + 1}, {"(a*)*", 0, n}, {"a{40}b", n - 40, n + 1}, {"b$", n, n + 1}, {"[ab]*a[ab]{60}", 0, n + 1}, {"a*c|b", n, n + 1}, {"aa*c|ab|b", n - 1, n + 1},
	} {
		m := built(t, read(t, x.text))
		s := as + "b"
		if i, j, found := m.Find(s, 0); i != x.i || j != x.j || !found || !m.Has(s) {
			t.Errorf("%s: Find = %d, %d, %v, Has = %v, want %d, %d", x.text, i, j, found, m.Has(s), x.i, x.j)
		}
	}
}

// TestOneBehindTheOther finds all matches of a long text, which is slow if each look goes to the text's end.
func TestOneBehindTheOther(t *testing.T) { // 9.3
	s := strings.Repeat("xxab ", 60000)
	m := built(t, read(t, "x*ab|b"))
	count, from := 0, 0
	for {
		i, j, found := m.Find(s, from)
		if !found {
			break
		}
		if i != 5*count || j != 5*count+4 {
			t.Fatalf("match %d is from %d to %d", count, i, j)
		}
		count, from = count+1, j
	}
	if count != 60000 {
		t.Errorf("%d matches", count)
	}
}

func TestTriesTakeFromEachOther(t *testing.T) { // 9.3: matches that began at many places end, or not, in any order
	r := rand.New(rand.NewSource(93))
	words := []string{"abcabcabd", "bcab", "cabca", "abcabcabca", "cab", "ab*c", "[abc]{7}d", "a(bc|ca)*d", "b.{5}$", "^.{3}c", "(abc)+d", "c+b"}
	for range 400 {
		r.Shuffle(len(words), func(i, j int) { words[i], words[j] = words[j], words[i] })
		tree := read(t, strings.Join(words[:2+r.Intn(4)], "|"))
		m := built(t, tree)
		for range 3 {
			s := randomText(r, "abcd", r.Intn(14))
			if r.Intn(2) == 0 {
				s = strings.Repeat("abc", 1+r.Intn(5)) + s
			}
			checkText(t, m, tree, s)
		}
	}
}

// TestOtherRegexes holds machines against the library's regexes, asked for the longest.
func TestOtherRegexes(t *testing.T) { // 9.3
	r := rand.New(rand.NewSource(94))
	count := 0
	for range 3000 {
		tree := randomTree(r, 1+r.Intn(5))
		text, e := syntax.Print(tree)
		if e != api.OK || strings.Contains(text, `\xFF`) { // the library's sets are of runes
			continue
		}
		other, err := regexp.Compile("(?s)" + text)
		if err != nil {
			t.Fatalf("%s: %v", text, err)
		}
		other.Longest()
		count++
		m := built(t, tree)
		for range 8 {
			s := randomText(r, "aab\nx", r.Intn(40))
			i, j, found := m.Find(s, 0)
			want := other.FindStringIndex(s)
			if found != (want != nil) || found && (i != want[0] || j != want[1]) || m.Has(s) != found {
				t.Fatalf("%s: Find(%q) = %d, %d, %v, the library: %v", text, s, i, j, found, want)
			}
		}
	}
	if count < 500 {
		t.Errorf("%d regexes are too few", count)
	}
}

func TestEndsIsAnIterator(t *testing.T) { // P3
	m := built(t, read(t, "a*b?"))
	const s = "aaab"
	places := m.Ends(s, 0)
	for left := range 6 {
		var seen []int
		for j := range places {
			if len(seen) == left {
				break
			}
			seen = append(seen, j)
		}
		if want := []int{0, 1, 2, 3, 4}; !slices.Equal(seen, want[:min(left, 5)]) {
			t.Errorf("left behind %d: %v", left, seen)
		}
	}
	count := 0
	for j := range places {
		var within []int
		for k := range places { // within itself, and with calls of its object
			m.Has(s[k:])
			m.Find(s, k)
			within = append(within, k)
		}
		if !slices.Equal(within, []int{0, 1, 2, 3, 4}) || j != count {
			t.Errorf("at %d: %v", j, within)
		}
		count++
	}
	if count != 5 {
		t.Errorf("%d places", count)
	}
}

func TestMachineForgetsTexts(t *testing.T) { // P4
	r := read(t, "^ab|b+c|a$")
	m := built(t, r)
	for range 3 {
		for _, s := range []string{"ab", "", "xbbbc", "a", "bbb", "c", "xab"} {
			checkText(t, m, r, s)
		}
		for range m.Ends("ab", 0) {
			break
		}
	}
}

func TestSeveralAskAtOneTime(t *testing.T) { // nothing in a machine changes once it is made
	m := built(t, read(t, "(a|b)*abb"))
	var wait sync.WaitGroup
	wrong := make([]int, 8)
	for k := range wrong {
		wait.Go(func() {
			s := strings.Repeat("ab", 100+k) + "b"
			for range 50 {
				if i, j, found := m.Find(s, 1); i != 1 || j != len(s) || !found || !m.Has(s) || len(listed(m, s, 0)) != 1 {
					wrong[k]++
				}
			}
		})
	}
	wait.Wait()
	if slices.Max(wrong) > 0 {
		t.Errorf("wrong answers: %v", wrong)
	}
}
