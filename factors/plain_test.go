package factors

import (
	"math/rand"
	"slices"
	"strings"
	"testing"

	"dragnet/api"
	"dragnet/glushkov"
	"dragnet/syntax"
)

// The plain forms here know a tree's texts by layer 9's positions, one byte behind the other, and do the chapter's other words one by one.

func setWhere(wanted func(b int) bool) api.Set {
	var s api.Set
	for b := range 256 {
		if wanted(b) {
			s[b/64] |= 1 << (b % 64)
		}
	}
	return s
}

func setOf(text string) api.Set {
	return setWhere(func(b int) bool { return strings.IndexByte(text, byte(b)) >= 0 })
}

// Short names of parts.
var (
	empty = api.Regex{Kind: api.RxEmpty}
	begun = api.Regex{Kind: api.RxBegin}
	ended = api.Regex{Kind: api.RxEnd}
	all   = setWhere(func(int) bool { return true })
	void  = api.Regex{Kind: api.RxSet}
)

func one(b byte) api.Regex            { return anyOf(setOf(string([]byte{b}))) }
func anyOf(s api.Set) api.Regex       { return api.Regex{Kind: api.RxSet, Set: s} }
func cat(kids ...api.Regex) api.Regex { return api.Regex{Kind: api.RxCat, Kids: kids} }
func alt(kids ...api.Regex) api.Regex { return api.Regex{Kind: api.RxAlt, Kids: kids} }
func rep(kid api.Regex, low, high int) api.Regex {
	return api.Regex{Kind: api.RxRep, Kids: []api.Regex{kid}, Min: low, Max: high}
}

func times(part api.Regex, n int) []api.Regex { return slices.Repeat([]api.Regex{part}, n) }

func nested(part api.Regex, n, low, high int) api.Regex {
	for range n {
		part = rep(part, low, high)
	}
	return part
}

// copied is a tree in new memory.
func copied(r api.Regex) api.Regex {
	var kids []api.Regex
	for _, kid := range r.Kids {
		kids = append(kids, copied(kid))
	}
	r.Kids = kids
	return r
}

// untied is a tree with RxEmpty instead of each anchor: it has the same texts, wherever it stands.
func untied(r api.Regex) api.Regex {
	r = copied(r)
	if r.Kind == api.RxBegin || r.Kind == api.RxEnd {
		return empty
	}
	for k := range r.Kids {
		r.Kids[k] = untied(r.Kids[k])
	}
	return r
}

// walk goes over the texts of a tree by its positions.
type walk struct {
	*glushkov.Machine
	sets  []api.Set
	last  []int
	leads []bool // of each position: can a text go through it to its end?
}

func walkOf(r api.Regex) walk {
	m, e := glushkov.Build(untied(r))
	if e != api.OK {
		panic(e)
	}
	w := walk{Machine: m, last: m.Last(), leads: make([]bool, m.Len())}
	for p := range m.Len() {
		set, _ := m.Set(p)
		w.sets = append(w.sets, set)
	}
	for changed := true; changed; {
		changed = false
		for p, set := range slices.Backward(w.sets) {
			if w.leads[p] || set == (api.Set{}) {
				continue
			}
			w.leads[p] = slices.Contains(w.last, p) || slices.ContainsFunc(m.Follow(p), func(q int) bool { return w.leads[q] })
			changed = changed || w.leads[p]
		}
	}
	return w
}

// by is those of some positions to which a byte leads.
func (w walk) by(some []int, b int) []int {
	var here []int
	for _, p := range some {
		if w.leads[p] && w.sets[p][b/64]>>(b%64)%2 == 1 {
			here = append(here, p)
		}
	}
	return here
}

func (w walk) behind(here []int) []int {
	var next []int
	for _, p := range here {
		next = append(next, w.Follow(p)...)
	}
	slices.Sort(next)
	return slices.Compact(next)
}

func (w walk) isEnd(here []int) bool {
	return slices.ContainsFunc(here, func(p int) bool { return slices.Contains(w.last, p) })
}

// onByOne is all beginnings of texts that have one byte more than some others, each with what may come behind it, and those of them that are texts. It stops behind the 17th.
func (w walk) onByOne(some map[string][]int) (longer map[string][]int, texts []string) {
	longer = map[string][]int{}
	for text, next := range some {
		for b := range 256 {
			here := w.by(next, b)
			if len(here) == 0 {
				continue
			}
			long := text + string([]byte{byte(b)})
			longer[long] = w.behind(here)
			if w.isEnd(here) {
				texts = append(texts, long)
			}
			if len(longer) > 16 {
				return longer, texts
			}
		}
	}
	return longer, texts
}

// plainTexts is all texts of a tree, rising, if they are few. Beginnings of one length, each of which goes on to a text, go on to different ones.
func plainTexts(r api.Regex) (texts []string, few bool) {
	w := walkOf(r)
	if w.Empty() {
		texts = []string{""}
	}
	next := map[string][]int{"": w.First()}
	for length := 1; ; length++ {
		longer, more := w.onByOne(next)
		texts = append(texts, more...)
		if len(longer) > 16 || len(texts) > 16 || length > 32 && len(longer) > 0 {
			return nil, false
		}
		if len(longer) == 0 {
			slices.Sort(texts)
			return texts, true
		}
		next = longer
	}
}

// plainPrefix goes on as long as no text ends, and one byte alone can come next.
func plainPrefix(r api.Regex) string {
	w := walkOf(r)
	text, next, ends := "", w.First(), w.Empty()
	for !ends {
		longer, texts := w.onByOne(map[string][]int{text: next})
		if len(longer) != 1 {
			return text
		}
		for text, next = range longer {
			ends = len(texts) > 0
		}
	}
	return text
}

// plainReduced lays words out, and takes out those in which another one stands.
func plainReduced(list []string) []string {
	list = slices.Clone(list)
	slices.Sort(list)
	list = slices.Compact(list)
	var left []string
	for _, word := range list {
		if !slices.ContainsFunc(list, func(other string) bool { return other != word && strings.Contains(word, other) }) {
			left = append(left, word)
		}
	}
	return left
}

// plainNeed is N.
func plainNeed(r api.Regex) ([]string, bool) {
	if texts, few := plainTexts(r); few && !slices.Contains(texts, "") {
		return plainReduced(texts), true
	}
	switch r.Kind {
	case api.RxCat:
		return plainBest(r.Kids)
	case api.RxAlt:
		return plainTogether(r.Kids)
	case api.RxRep:
		if r.Min >= 1 {
			return plainNeed(r.Kids[0])
		}
	}
	return nil, false
}

func plainBest(kids []api.Regex) ([]string, bool) {
	var lists [][]string
	for from := 0; from < len(kids); {
		texts, few := plainTexts(kids[from])
		if !few {
			from++
			continue
		}
		to := from + 1
		for ; to < len(kids); to++ {
			longer, few := plainTexts(cat(kids[from : to+1]...))
			if !few {
				break
			}
			texts = longer
		}
		if !slices.Contains(texts, "") {
			lists = append(lists, plainReduced(texts))
		}
		from = to
	}
	for _, kid := range kids {
		if list, ok := plainNeed(kid); ok {
			lists = append(lists, list)
		}
	}
	if len(lists) == 0 {
		return nil, false
	}
	best := lists[0]
	for _, list := range lists[1:] {
		a, b := plainShortest(best), plainShortest(list)
		if b > a || b == a && len(list) < len(best) {
			best = list
		}
	}
	return best, true
}

func plainShortest(list []string) int {
	least := len(list[0])
	for _, word := range list {
		least = min(least, len(word))
	}
	return least
}

func plainTogether(kids []api.Regex) ([]string, bool) {
	var together []string
	for _, kid := range kids {
		if texts, few := plainTexts(kid); few && len(texts) == 0 {
			continue
		}
		list, ok := plainNeed(kid)
		if !ok {
			return nil, false
		}
		together = append(together, list...)
	}
	if together = plainReduced(together); len(together) > 16 {
		return nil, false
	}
	return together, true
}

// isText asks the chapter's words alone whether a text is one of a part's; plain forms are held against it, where texts are short.
func isText(r api.Regex, s string) bool {
	switch r.Kind {
	case api.RxSet:
		return len(s) == 1 && r.Set[s[0]/64]>>(s[0]%64)%2 == 1
	case api.RxCat:
		return isRow(r.Kids, s)
	case api.RxAlt:
		return slices.ContainsFunc(r.Kids, func(kid api.Regex) bool { return isText(kid, s) })
	case api.RxRep:
		most := r.Max
		if most == api.Infinite { // one more for each byte: the others would be empty
			most = r.Min + len(s)
		}
		for n := r.Min; n <= most; n++ {
			if isRow(times(r.Kids[0], n), s) {
				return true
			}
		}
		return false
	}
	return s == ""
}

func isRow(kids []api.Regex, s string) bool {
	if len(kids) == 0 {
		return s == ""
	}
	for k := range len(s) + 1 {
		if isText(kids[0], s[:k]) && isRow(kids[1:], s[k:]) {
			return true
		}
	}
	return false
}

// name is a tree as it is told when a test fails.
func name(r api.Regex) string {
	if text, e := syntax.Print(r); e == api.OK {
		return text
	}
	return "a tree without a text"
}

// read is what a regex that is right as a text says.
func read(t *testing.T, text string) api.Regex {
	t.Helper()
	r, e, at := syntax.Parse(text)
	if e != api.OK {
		t.Fatalf("Parse(%q): %v at %d", text, e, at)
	}
	return r
}

// check holds all that is told of a tree that is right against the plain forms.
func check(t *testing.T, r api.Regex) {
	t.Helper()
	texts, few := Exact(r)
	if want, is := plainTexts(r); few != is || !slices.Equal(texts, want) {
		t.Fatalf("%s: Exact %.300q, %v, want %.300q, %v", name(r), texts, few, want, is)
	}
	need, needs := Need(r)
	if want, is := plainNeed(r); needs != is || !slices.Equal(need, want) {
		t.Fatalf("%s: Need %.300q, %v, want %.300q, %v", name(r), need, needs, want, is)
	}
	if few && !slices.Contains(texts, "") && !needs { // 11.4
		t.Fatalf("%s: Exact tells %q, Need nothing", name(r), texts)
	}
	if got, want := Prefix(r), plainPrefix(r); got != want {
		t.Fatalf("%s: Prefix %q, want %q", name(r), got, want)
	}
}

// checkTexts holds what is told against what each of some texts is, by the chapter's words alone.
func checkTexts(t *testing.T, r api.Regex, some []string) {
	t.Helper()
	texts, few := Exact(r)
	prefix := Prefix(r)
	for _, s := range some {
		is := isText(r, s)
		if few && is != slices.Contains(texts, s) {
			t.Fatalf("%s: Exact %q; is %q a text? %v", name(r), texts, s, is)
		}
		if is && !strings.HasPrefix(s, prefix) {
			t.Fatalf("%s: Prefix %q; %q is a text", name(r), prefix, s)
		}
	}
}

// checkMatches: 11.4, of some texts in which the regex may match.
func checkMatches(t *testing.T, r api.Regex, some []string) {
	t.Helper()
	m, e := glushkov.Build(r)
	if e != api.OK {
		t.Fatalf("Build(%s): %v", name(r), e)
	}
	need, needs := Need(r)
	prefix := Prefix(r)
	for _, s := range some {
		if needs && m.Has(s) && !slices.ContainsFunc(need, func(word string) bool { return strings.Contains(s, word) }) {
			t.Fatalf("%s: it matches in %q; Need %q", name(r), s, need)
		}
		for at := range len(s) + 1 {
			for range m.Ends(s, at) {
				if !strings.HasPrefix(s[at:], prefix) {
					t.Fatalf("%s: it matches in %q from %d; Prefix %q", name(r), s, at, prefix)
				}
			}
		}
	}
}

// textsOver are all texts of 0 to so many of these pieces.
func textsOver(pieces []string, most int) []string {
	list, last := []string{""}, []string{""}
	for range most {
		var longer []string
		for _, text := range last {
			for _, piece := range pieces {
				longer = append(longer, text+piece)
			}
		}
		list, last = append(list, longer...), longer
	}
	return list
}

func randomText(r *rand.Rand, bytes string, length int) string {
	b := make([]byte, length)
	for k := range b {
		b[k] = bytes[r.Intn(len(bytes))]
	}
	return string(b)
}

// grower makes trees at random, of some leaves.
type grower struct {
	*rand.Rand
	leaves []api.Regex
}

// tree is one that has anchors at times; not always right, as it may have too much.
func (g grower) tree(deep int) api.Regex {
	if g.Intn(2) == 0 {
		return g.branch(deep)
	}
	var kids []api.Regex
	for range 2 + g.Intn(3) {
		kids = append(kids, g.branch(deep))
	}
	return alt(kids...)
}

func (g grower) branch(deep int) api.Regex {
	part := g.part(deep)
	switch g.Intn(8) {
	case 0:
		return cat(begun, part)
	case 1:
		return cat(part, ended)
	case 2:
		return cat(begun, part, ended)
	case 3:
		return []api.Regex{begun, ended, empty, cat(begun, ended)}[g.Intn(4)]
	}
	return part
}

func (g grower) part(deep int) api.Regex {
	kids := func() []api.Regex {
		var list []api.Regex
		for range 2 + g.Intn(4) {
			list = append(list, g.part(deep-1))
		}
		return list
	}
	kind := g.Intn(9)
	if deep <= 1 {
		kind = 0
	}
	switch kind {
	case 0, 1:
		return g.leaves[g.Intn(len(g.leaves))]
	case 2, 3, 4:
		return cat(kids()...)
	case 5, 6:
		return alt(kids()...)
	}
	low := []int{0, 0, 1, 1, 2, 3}[g.Intn(6)]
	high := []int{api.Infinite, api.Infinite, low, low + 1, low + 2}[g.Intn(5)]
	return rep(g.part(deep-1), low, high)
}
