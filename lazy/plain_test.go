package lazy

import (
	"fmt"
	"math/rand"
	"slices"
	"strings"
	"testing"

	"dragnet/api"
	"dragnet/glushkov"
	"dragnet/syntax"
)

func setWhere(wanted func(b int) bool) api.Set {
	var s api.Set
	for b := range 256 {
		if wanted(b) {
			s[b/64] |= 1 << (b % 64)
		}
	}
	return s
}

func setOf(text string) api.Set {
	return setWhere(func(b int) bool { return strings.IndexByte(text, byte(b)) >= 0 })
}

// Short names of parts.
var (
	empty = api.Regex{Kind: api.RxEmpty}
	begun = api.Regex{Kind: api.RxBegin}
	ended = api.Regex{Kind: api.RxEnd}
	all   = setWhere(func(int) bool { return true })
)

func one(b byte) api.Regex            { return anyOf(setOf(string([]byte{b}))) }
func anyOf(s api.Set) api.Regex       { return api.Regex{Kind: api.RxSet, Set: s} }
func cat(kids ...api.Regex) api.Regex { return api.Regex{Kind: api.RxCat, Kids: kids} }
func alt(kids ...api.Regex) api.Regex { return api.Regex{Kind: api.RxAlt, Kids: kids} }
func rep(kid api.Regex, low, high int) api.Regex {
	return api.Regex{Kind: api.RxRep, Kids: []api.Regex{kid}, Min: low, Max: high}
}

func times(part api.Regex, n int) []api.Regex { return slices.Repeat([]api.Regex{part}, n) }

func nested(part api.Regex, n, low, high int) api.Regex {
	for range n {
		part = rep(part, low, high)
	}
	return part
}

// plainBranch is a branch by the chapter's words; its positions have their numbers in the whole tree.
type plainBranch struct {
	tiedInFront, tiedBehind, nothing bool
	first, last                      []int
}

// plain does the chapter's words one by one: each branch is asked as a tree of its own, and sets are lists of positions, kept by names.
type plain struct {
	branches []plainBranch
	sets     []api.Set
	follow   [][]int
	most     int
	kept     map[string]bool
	ever     map[string]bool // all names that were ever wanted
	flushes  int
}

func plainOf(r api.Regex, most int) *plain {
	p := &plain{most: most, kept: map[string]bool{}, ever: map[string]bool{}}
	branches := []api.Regex{r}
	if r.Kind == api.RxAlt {
		branches = r.Kids
	}
	for _, branch := range branches {
		p.take(branch)
	}
	return p
}

func (p *plain) take(branch api.Regex) {
	m, e := glushkov.Build(branch)
	if e != api.OK {
		panic(e)
	}
	offset := len(p.sets)
	shifted := func(list []int) []int {
		for k := range list {
			list[k] += offset
		}
		return list
	}
	isCat := branch.Kind == api.RxCat
	p.branches = append(p.branches, plainBranch{
		tiedInFront: branch.Kind == api.RxBegin || isCat && branch.Kids[0].Kind == api.RxBegin,
		tiedBehind:  branch.Kind == api.RxEnd || isCat && branch.Kids[len(branch.Kids)-1].Kind == api.RxEnd,
		nothing:     mayBeNothing(branch),
		first:       shifted(m.First()),
		last:        shifted(m.Last()),
	})
	for q := range m.Len() {
		set, _ := m.Set(q)
		p.sets = append(p.sets, set)
		p.follow = append(p.follow, shifted(m.Follow(q)))
	}
}

// mayBeNothing is by the table of chapter 9.
func mayBeNothing(r api.Regex) bool {
	switch r.Kind {
	case api.RxSet:
		return false
	case api.RxCat:
		return !slices.ContainsFunc(r.Kids, func(kid api.Regex) bool { return !mayBeNothing(kid) })
	case api.RxAlt:
		return slices.ContainsFunc(r.Kids, mayBeNothing)
	case api.RxRep:
		return r.Min == 0 || mayBeNothing(r.Kids[0])
	}
	return true
}

func (p *plain) want(name string) {
	p.ever[name] = true
	if p.kept[name] {
		return
	}
	if len(p.kept) == p.most {
		p.kept = map[string]bool{}
		p.flushes++
	}
	p.kept[name] = true
}

// next is the next set by a byte; firsts: is a position that is first in this branch among them?
func (p *plain) next(here []int, b byte, firsts func(plainBranch) bool) []int {
	var list []int
	for _, q := range here {
		list = append(list, p.follow[q]...)
	}
	for _, branch := range p.branches {
		if firsts(branch) {
			list = append(list, branch.first...)
		}
	}
	list = slices.DeleteFunc(list, func(q int) bool { return p.sets[q][b/64]>>(b%64)%2 == 0 })
	slices.Sort(list)
	return slices.Compact(list)
}

// shows: does a match show at the place j of a text? nothing: may it be one of nothing?
func (p *plain) shows(here []int, j int, s string, nothing bool) bool {
	for _, branch := range p.branches {
		if branch.tiedBehind && j != len(s) {
			continue
		}
		if slices.ContainsFunc(here, func(q int) bool { return slices.Contains(branch.last, q) }) {
			return true
		}
		if nothing && branch.nothing && (!branch.tiedInFront || j == 0) {
			return true
		}
	}
	return false
}

func (p *plain) has(s string) bool {
	var here []int
	p.want("S0")
	for j := 0; ; j++ {
		if p.shows(here, j, s, true) {
			return true
		}
		if j == len(s) {
			return false
		}
		here = p.next(here, s[j], func(b plainBranch) bool { return j == 0 || !b.tiedInFront })
		p.want(fmt.Sprint("search set ", here))
	}
}

func (p *plain) match(s string, i int) (to int, found bool) {
	var here []int
	p.want(map[bool]string{true: "M0", false: "M1"}[i == 0])
	for j := i; ; j++ {
		if p.shows(here, j, s, j == i) {
			to, found = j, true
		}
		if j == len(s) {
			return to, found
		}
		here = p.next(here, s[j], func(b plainBranch) bool { return j == i && (i == 0 || !b.tiedInFront) })
		if len(here) == 0 {
			return to, found
		}
		p.want(fmt.Sprint("match set ", here))
	}
}

func (p *plain) find(s string, from int) (int, int, bool) {
	for i := max(from, 0); i <= len(s); i++ {
		if j, found := p.match(s, i); found {
			return i, j, true
		}
	}
	return 0, 0, false
}

// trio is an automaton, its plain form and layer 9's machine, which are asked the same.
type trio struct {
	t       *testing.T
	name    string
	auto    *Auto
	plain   *plain
	machine *glushkov.Machine
}

func trioOf(t *testing.T, r api.Regex, most int) *trio {
	t.Helper()
	name, e := syntax.Print(r)
	if e != api.OK {
		name = "a tree without a text"
	}
	name = fmt.Sprintf("%s, most %d", name, most)
	m, e := glushkov.Build(r)
	if e != api.OK {
		t.Fatalf("Build(%s): %v", name, e)
	}
	x := &trio{t, name, made(t, r, most), plainOf(r, most), m}
	x.checkCounts("New")
	return x
}

func made(t *testing.T, r api.Regex, most int) *Auto {
	t.Helper()
	a, e := New(r, most)
	if a == nil || e != api.OK {
		t.Fatalf("New(%.300v, %d): %v, %v", r, most, a, e)
	}
	return a
}

// checkCounts: 10.4, and what 10.5 says of it.
func (x *trio) checkCounts(asked string) {
	x.t.Helper()
	states, flushes := x.auto.States(), x.auto.Flushes()
	if states != len(x.plain.kept) || flushes != x.plain.flushes {
		x.t.Fatalf("%s: behind %s: States %d, Flushes %d, want %d, %d", x.name, asked, states, flushes, len(x.plain.kept), x.plain.flushes)
	}
	if states > x.plain.most || states == 0 && len(x.plain.ever) > 0 {
		x.t.Fatalf("%s: behind %s: States %d", x.name, asked, states)
	}
	if flushes != 0 && x.plain.most > len(x.plain.ever) {
		x.t.Fatalf("%s: behind %s: Flushes %d, though %d sets were ever wanted", x.name, asked, flushes, len(x.plain.ever))
	}
}

func (x *trio) has(s string) {
	x.t.Helper()
	got, want := x.auto.Has(s), x.plain.has(s)
	if got != want || got != x.machine.Has(s) {
		x.t.Fatalf("%s: Has(%.100q) = %v, the plain form: %v, layer 9: %v", x.name, s, got, want, x.machine.Has(s))
	}
	x.checkCounts(fmt.Sprintf("Has(%.100q)", s))
}

func (x *trio) find(s string, from int) {
	x.t.Helper()
	i, j, found := x.auto.Find(s, from)
	if a, b, yes := x.plain.find(s, from); i != a || j != b || found != yes {
		x.t.Fatalf("%s: Find(%.100q, %d) = %d, %d, %v, the plain form: %d, %d, %v", x.name, s, from, i, j, found, a, b, yes)
	}
	if a, b, yes := x.machine.Find(s, from); i != a || j != b || found != yes {
		x.t.Fatalf("%s: Find(%.100q, %d) = %d, %d, %v, layer 9: %d, %d, %v", x.name, s, from, i, j, found, a, b, yes)
	}
	x.checkCounts(fmt.Sprintf("Find(%.100q, %d)", s, from))
}

// read is what a regex that is right as a text says.
func read(t *testing.T, text string) api.Regex {
	t.Helper()
	r, e, at := syntax.Parse(text)
	if e != api.OK {
		t.Fatalf("Parse(%q): %v at %d", text, e, at)
	}
	return r
}

// textsOver are all texts of 0 to so many of these pieces.
func textsOver(pieces []string, most int) []string {
	list, last := []string{""}, []string{""}
	for range most {
		var longer []string
		for _, text := range last {
			for _, piece := range pieces {
				longer = append(longer, text+piece)
			}
		}
		list, last = append(list, longer...), longer
	}
	return list
}

func randomText(r *rand.Rand, bytes string, length int) string {
	b := make([]byte, length)
	for k := range b {
		b[k] = bytes[r.Intn(len(bytes))]
	}
	return string(b)
}

// randomTree is one that has anchors at times; not always right, as it may have too much.
func randomTree(r *rand.Rand, deep int) api.Regex {
	if r.Intn(2) == 0 {
		return randomBranch(r, deep)
	}
	var kids []api.Regex
	for range 2 + r.Intn(3) {
		kids = append(kids, randomBranch(r, deep))
	}
	return alt(kids...)
}

func randomBranch(r *rand.Rand, deep int) api.Regex {
	part := randomPart(r, deep)
	switch r.Intn(8) {
	case 0:
		return cat(begun, part)
	case 1:
		return cat(part, ended)
	case 2:
		return cat(begun, part, ended)
	case 3:
		return []api.Regex{begun, ended, empty, cat(begun, ended)}[r.Intn(4)]
	}
	return part
}

func randomPart(r *rand.Rand, deep int) api.Regex {
	kids := func() []api.Regex {
		var list []api.Regex
		for range 2 + r.Intn(3) {
			list = append(list, randomPart(r, deep-1))
		}
		return list
	}
	kind := r.Intn(8)
	if deep <= 1 {
		kind = 0
	}
	switch kind {
	case 0, 1:
		return []api.Regex{empty, one('a'), one('a'), one('b'), one('b'), one(0xff), anyOf(setOf("ab")), anyOf(all), anyOf(api.Set{})}[r.Intn(9)]
	case 2, 3, 4:
		return cat(kids()...)
	case 5:
		return alt(kids()...)
	}
	low := []int{0, 0, 1, 2, 3}[r.Intn(5)]
	high := []int{api.Infinite, api.Infinite, low, low + 1, low + 2}[r.Intn(5)]
	return rep(randomPart(r, deep-1), low, high)
}
