package glushkov

import (
	"math"
	"math/rand"
	"slices"
	"strings"
	"testing"

	"dragnet/api"
	"dragnet/syntax"
)

// The plain forms here do the chapter's words one by one: what a tree matches is asked of the tree, not of positions; positions and pairs are asked of a tree that is written out, by the chapter's table.

func setWhere(wanted func(b int) bool) api.Set {
	var s api.Set
	for b := range 256 {
		if wanted(b) {
			s[b/64] |= 1 << (b % 64)
		}
	}
	return s
}

func setOf(text string) api.Set {
	return setWhere(func(b int) bool { return strings.IndexByte(text, byte(b)) >= 0 })
}

// Short names of parts.
var (
	empty = api.Regex{Kind: api.RxEmpty}
	begin = api.Regex{Kind: api.RxBegin}
	end   = api.Regex{Kind: api.RxEnd}
	all   = setWhere(func(int) bool { return true })
)

func one(b byte) api.Regex            { return anyOf(setOf(string([]byte{b}))) }
func anyOf(s api.Set) api.Regex       { return api.Regex{Kind: api.RxSet, Set: s} }
func cat(kids ...api.Regex) api.Regex { return api.Regex{Kind: api.RxCat, Kids: kids} }
func alt(kids ...api.Regex) api.Regex { return api.Regex{Kind: api.RxAlt, Kids: kids} }
func rep(kid api.Regex, low, high int) api.Regex {
	return api.Regex{Kind: api.RxRep, Kids: []api.Regex{kid}, Min: low, Max: high}
}

func times(part api.Regex, n int) []api.Regex { return slices.Repeat([]api.Regex{part}, n) }

func nested(part api.Regex, n, low, high int) api.Regex {
	for range n {
		part = rep(part, low, high)
	}
	return part
}

// copied is a tree in new memory.
func copied(r api.Regex) api.Regex {
	var kids []api.Regex
	for _, kid := range r.Kids {
		kids = append(kids, copied(kid))
	}
	r.Kids = kids
	return r
}

func hasAnchor(r api.Regex) bool {
	return r.Kind == api.RxBegin || r.Kind == api.RxEnd || slices.ContainsFunc(r.Kids, hasAnchor)
}

// goOn is all places to which a tree matches from one of some places; each is a list of whether each place is one.
func goOn(r api.Regex, s string, from []bool) []bool {
	to := make([]bool, len(s)+1)
	for i, yes := range from {
		if !yes {
			continue
		}
		for j, ends := range plainEnds(r, s, i) {
			to[j] = to[j] || ends
		}
	}
	return to
}

func placeOnly(s string, at int, yes bool) []bool {
	list := make([]bool, len(s)+1)
	list[at] = yes
	return list
}

// plainEnds tells of each place whether a tree that is right matches to it from a place.
func plainEnds(r api.Regex, s string, i int) []bool {
	to := placeOnly(s, i, true)
	switch r.Kind {
	case api.RxSet:
		to[i] = false
		if i < len(s) {
			to[i+1] = r.Set[s[i]/64]>>(s[i]%64)%2 == 1
		}
	case api.RxBegin:
		to[i] = i == 0
	case api.RxEnd:
		to[i] = i == len(s)
	case api.RxCat:
		for _, kid := range r.Kids {
			to = goOn(kid, s, to)
		}
	case api.RxAlt:
		to[i] = false
		for _, kid := range r.Kids {
			for j, ends := range plainEnds(kid, s, i) {
				to[j] = to[j] || ends
			}
		}
	case api.RxRep:
		return plainTimes(r, s, to)
	}
	return to
}

// plainTimes: more times than Min and one for each byte lead nowhere else.
func plainTimes(r api.Regex, s string, places []bool) []bool {
	most := r.Max
	if most == api.Infinite {
		most = r.Min + len(s)
	}
	to := make([]bool, len(s)+1)
	for n := 0; n <= most; n++ {
		for j, yes := range places {
			to[j] = to[j] || yes && n >= r.Min
		}
		if n < most {
			places = goOn(r.Kids[0], s, places)
		}
	}
	return to
}

// ends is the places that plainEnds tells, as Ends goes over them.
func ends(r api.Regex, s string, at int) []int {
	var list []int
	if at < 0 || at > len(s) {
		return nil
	}
	for j, yes := range plainEnds(r, s, at) {
		if yes {
			list = append(list, j)
		}
	}
	return list
}

// More kinds of parts, of trees that are written out.
const (
	optional = 100 + iota
	starred
	plussed
)

// written is a tree that is written out.
type written struct {
	kind     int
	position int
	kids     []written
}

// writeOut numbers the positions as it goes, and keeps their sets.
func writeOut(r api.Regex, sets *[]api.Set) written {
	w := written{kind: r.Kind}
	switch r.Kind {
	case api.RxSet:
		w.position = len(*sets)
		*sets = append(*sets, r.Set)
	case api.RxCat, api.RxAlt:
		for _, kid := range r.Kids {
			w.kids = append(w.kids, writeOut(kid, sets))
		}
	case api.RxRep:
		return writeTimes(r, sets)
	}
	return w
}

func writeTimes(r api.Regex, sets *[]api.Set) written {
	row := written{kind: api.RxCat}
	put := func(kind, times int) {
		for range times {
			kid := writeOut(r.Kids[0], sets)
			if kind != 0 {
				kid = written{kind: kind, kids: []written{kid}}
			}
			row.kids = append(row.kids, kid)
		}
	}
	switch {
	case r.Max == 0:
		return written{kind: api.RxEmpty}
	case r.Max != api.Infinite:
		put(0, r.Min)
		put(optional, r.Max-r.Min)
	case r.Min == 0:
		put(starred, 1)
	default:
		put(0, r.Min-1)
		put(plussed, 1)
	}
	return row
}

// table is what the chapter's table says of a tree.
type table struct {
	nothing     bool
	first, last []int
	pairs       [][2]int
}

func tableOf(w written) table {
	var kids []table
	x := table{}
	for _, kid := range w.kids {
		k := tableOf(kid)
		kids = append(kids, k)
		x.pairs = append(x.pairs, k.pairs...)
	}
	switch w.kind {
	case api.RxEmpty, api.RxBegin, api.RxEnd:
		x.nothing = true
	case api.RxSet:
		x.first, x.last = []int{w.position}, []int{w.position}
	case api.RxCat:
		x.takeRow(kids)
	case api.RxAlt:
		for _, k := range kids {
			x.nothing = x.nothing || k.nothing
			x.first, x.last = append(x.first, k.first...), append(x.last, k.last...)
		}
	default:
		x.nothing = w.kind != plussed || kids[0].nothing
		x.first, x.last = kids[0].first, kids[0].last
		if w.kind != optional {
			x.pairUp(kids[0], kids[0])
		}
	}
	return x
}

func (x *table) pairUp(a, b table) {
	for _, p := range a.last {
		for _, q := range b.first {
			x.pairs = append(x.pairs, [2]int{p, q})
		}
	}
}

func (x *table) takeRow(kids []table) {
	mayBeNothing := func(some []table) bool {
		return !slices.ContainsFunc(some, func(k table) bool { return !k.nothing })
	}
	x.nothing = mayBeNothing(kids)
	for n, k := range kids {
		if mayBeNothing(kids[:n]) {
			x.first = append(x.first, k.first...)
		}
		if mayBeNothing(kids[n+1:]) {
			x.last = append(x.last, k.last...)
		}
		for later := n + 1; later < len(kids) && mayBeNothing(kids[n+1:later]); later++ {
			x.pairUp(k, kids[later])
		}
	}
}

func rising(list []int) []int {
	list = slices.Clone(list)
	slices.Sort(list)
	return slices.Compact(list)
}

func (x *table) follow(p int) []int {
	var list []int
	for _, pair := range x.pairs {
		if pair[0] == p {
			list = append(list, pair[1])
		}
	}
	return rising(list)
}

// read is what a regex that is right as a text says.
func read(t *testing.T, text string) api.Regex {
	t.Helper()
	r, e, at := syntax.Parse(text)
	if e != api.OK {
		t.Fatalf("Parse(%q): %v at %d", text, e, at)
	}
	return r
}

func built(t *testing.T, r api.Regex) *Machine {
	t.Helper()
	m, e := Build(r)
	if m == nil || e != api.OK {
		t.Fatalf("Build(%.300v): %v", r, e)
	}
	return m
}

// name is a tree as it is told when a test fails.
func name(r api.Regex) string {
	if text, e := syntax.Print(r); e == api.OK {
		return text
	}
	return "a tree without a text"
}

// checkBuilt holds all that a machine tells of itself against the plain forms.
func checkBuilt(t *testing.T, r api.Regex) *Machine {
	t.Helper()
	m := built(t, r)
	var sets []api.Set
	x := tableOf(writeOut(r, &sets))
	if m.Len() != len(sets) || m.Len() != syntax.Positions(r) || m.Words() != int(math.Ceil(float64(len(sets))/64)) {
		t.Fatalf("%s: Len %d, Words %d, want %d positions", name(r), m.Len(), m.Words(), len(sets))
	}
	if want := slices.Contains(ends(r, "xy", 1), 1); m.Empty() != want {
		t.Fatalf("%s: Empty %v", name(r), m.Empty())
	}
	if f, l := m.First(), m.Last(); !slices.Equal(f, rising(x.first)) || !slices.Equal(l, rising(x.last)) {
		t.Fatalf("%s: First %v, Last %v, want %v, %v", name(r), f, l, rising(x.first), rising(x.last))
	}
	for p, want := range sets {
		if got := m.Follow(p); !slices.Equal(got, x.follow(p)) {
			t.Fatalf("%s: Follow(%d) = %v, want %v", name(r), p, got, x.follow(p))
		}
		if got, ok := m.Set(p); got != want || !ok {
			t.Fatalf("%s: Set(%d) = %v, %v, want %v", name(r), p, got, ok, want)
		}
	}
	for _, p := range []int{-1, len(sets), len(sets) + 1, 500, 512, math.MinInt, math.MaxInt} {
		got, ok := m.Set(p)
		if p >= 0 && p < len(sets) {
			continue
		}
		if len(m.Follow(p)) != 0 || got != (api.Set{}) || ok {
			t.Fatalf("%s: of no position %d: Follow %v, Set %v, %v", name(r), p, m.Follow(p), got, ok)
		}
	}
	return m
}

func listed(m *Machine, s string, at int) []int {
	var list []int
	for j := range m.Ends(s, at) {
		list = append(list, j)
	}
	return list
}

// checkText holds all that a machine tells of a text against the plain form.
func checkText(t *testing.T, m *Machine, r api.Regex, s string) {
	t.Helper()
	all := make([][]int, len(s)+1)
	has := false
	for i := range all {
		all[i] = ends(r, s, i)
		has = has || len(all[i]) > 0
		if got := listed(m, s, i); !slices.Equal(got, all[i]) {
			t.Fatalf("%s: Ends(%q, %d) = %v, want %v", name(r), s, i, got, all[i])
		}
	}
	for _, at := range []int{-1, len(s) + 1, math.MinInt, math.MaxInt} {
		if got := listed(m, s, at); len(got) != 0 {
			t.Fatalf("%s: Ends(%q, %d) = %v", name(r), s, at, got)
		}
	}
	if got := m.Has(s); got != has {
		t.Fatalf("%s: Has(%q) = %v", name(r), s, got)
	}
	for from := -1; from <= len(s)+1; from++ {
		checkFind(t, m, r, s, from, all)
	}
	checkFind(t, m, r, s, math.MinInt, all)
	checkFind(t, m, r, s, math.MaxInt, all)
	if !hasAnchor(r) {
		checkRows(t, m, r, s, all)
	}
}

func checkFind(t *testing.T, m *Machine, r api.Regex, s string, from int, all [][]int) {
	t.Helper()
	a, b, want := 0, 0, false
	for i := max(from, 0); i <= len(s) && !want; i++ {
		if n := len(all[i]); n > 0 {
			a, b, want = i, all[i][n-1], true
		}
	}
	if i, j, found := m.Find(s, from); i != a || j != b || found != want {
		t.Fatalf("%s: Find(%q, %d) = %d, %d, %v, want %d, %d, %v", name(r), s, from, i, j, found, a, b, want)
	}
}

// checkRows: 9.4, of a regex without anchors: the bytes between are matched as a whole text, and are a row of positions.
func checkRows(t *testing.T, m *Machine, r api.Regex, s string, all [][]int) {
	t.Helper()
	for i := range all {
		for j := i; j <= len(s); j++ {
			want := slices.Contains(all[i], j)
			if whole := slices.Contains(listed(m, s[i:j], 0), j-i); whole != want {
				t.Fatalf("%s: from %d to %d of %q: %v, as a whole text: %v", name(r), i, j, s, want, whole)
			}
			if isRow(m, s[i:j]) != want {
				t.Fatalf("%s: from %d to %d of %q: %v, as a row of positions: %v", name(r), i, j, s, want, !want)
			}
		}
	}
}

// isRow asks a machine's positions whether a text is a row of them.
func isRow(m *Machine, s string) bool {
	if s == "" {
		return m.Empty()
	}
	next, here := m.First(), []int(nil)
	for k := range len(s) {
		here = slices.DeleteFunc(slices.Clone(next), func(p int) bool {
			set, _ := m.Set(p)
			return set[s[k]/64]>>(s[k]%64)%2 == 0
		})
		next = nil
		for _, p := range here {
			next = append(next, m.Follow(p)...)
		}
		next = rising(next)
	}
	return slices.ContainsFunc(m.Last(), func(p int) bool { return slices.Contains(here, p) })
}

// textsOver are all texts of 0 to so many of these pieces.
func textsOver(pieces []string, most int) []string {
	list, last := []string{""}, []string{""}
	for range most {
		var longer []string
		for _, text := range last {
			for _, piece := range pieces {
				longer = append(longer, text+piece)
			}
		}
		list, last = append(list, longer...), longer
	}
	return list
}

func randomText(r *rand.Rand, bytes string, length int) string {
	b := make([]byte, length)
	for k := range b {
		b[k] = bytes[r.Intn(len(bytes))]
	}
	return string(b)
}

// randomTree is one that has anchors at times; not always right, as it may have too much.
func randomTree(r *rand.Rand, deep int) api.Regex {
	if r.Intn(2) == 0 {
		return randomBranch(r, deep)
	}
	var kids []api.Regex
	for range 2 + r.Intn(3) {
		kids = append(kids, randomBranch(r, deep))
	}
	return alt(kids...)
}

func randomBranch(r *rand.Rand, deep int) api.Regex {
	kids := []api.Regex{randomPart(r, deep)}
	switch r.Intn(8) {
	case 0:
		kids = append([]api.Regex{begin}, kids...)
	case 1:
		kids = append(kids, end)
	case 2:
		kids = []api.Regex{begin, kids[0], end}
	case 3:
		return []api.Regex{begin, end, empty, cat(begin, end)}[r.Intn(4)]
	}
	if len(kids) == 1 {
		return kids[0]
	}
	return cat(kids...)
}

func randomPart(r *rand.Rand, deep int) api.Regex {
	kids := func() []api.Regex {
		var list []api.Regex
		for range 2 + r.Intn(3) {
			list = append(list, randomPart(r, deep-1))
		}
		return list
	}
	kind := r.Intn(8)
	if deep <= 1 {
		kind = 0
	}
	switch kind {
	case 0, 1:
		return []api.Regex{empty, one('a'), one('a'), one('b'), one('b'), one(0xff), anyOf(setOf("ab")), anyOf(all), anyOf(api.Set{})}[r.Intn(9)]
	case 2, 3, 4:
		return cat(kids()...)
	case 5:
		return alt(kids()...)
	}
	low := []int{0, 0, 1, 2, 3}[r.Intn(5)]
	high := []int{api.Infinite, api.Infinite, low, low + 1, low + 2}[r.Intn(5)]
	return rep(randomPart(r, deep-1), low, high)
}
