package glushkov

import "dragnet/api"

// What an anchor may ask of a place; the sums of these are the kinds of places. (The one place of an empty text is both.)
const (
	front  = 1 << iota // it is the text's beginning
	behind             // it is the text's end
	kinds              // how many kinds there are
)

func kindOf(at, length int) int {
	kind := 0
	if at == 0 {
		kind |= front
	}
	if at == length {
		kind |= behind
	}
	return kind
}

// part is what is known of a tree: may it be nothing, which of its positions are first, which are last?
type part struct {
	nothing     bool
	first, last row
}

// branchesOf is what a tree that is right may be one of: anchors stand at the ends of these alone.
func branchesOf(r api.Regex) []api.Regex {
	if r.Kind == api.RxAlt {
		return r.Kids
	}
	return []api.Regex{r}
}

// tiesOf is what the anchors of a branch ask of the place at which it begins (front), and at which it ends (behind).
func tiesOf(branch api.Regex) int {
	ends := []api.Regex{branch}
	if branch.Kind == api.RxCat {
		ends = branch.Kids
	}
	ties := 0
	if ends[0].Kind == api.RxBegin {
		ties |= front
	}
	if ends[len(ends)-1].Kind == api.RxEnd {
		ties |= behind
	}
	return ties
}

// offer puts a branch in at all kinds of places that its ties allow.
func (m *Machine) offer(branch part, ties int) {
	for kind := range m.spots {
		spot, lacks := &m.spots[kind], ties&^kind
		if lacks&front == 0 {
			spot.first.add(&branch.first)
		}
		if lacks&behind == 0 {
			spot.last.add(&branch.last)
		}
		if lacks == 0 {
			spot.nothing = spot.nothing || branch.nothing
		}
	}
}

// write puts in the positions and pairs of a tree, counts written out.
func (m *Machine) write(r api.Regex) part {
	switch r.Kind {
	case api.RxSet:
		return m.position(r.Set)
	case api.RxCat:
		return m.chain(r.Kids)
	case api.RxAlt:
		return m.choice(r.Kids)
	case api.RxRep:
		return m.repeated(r)
	}
	return part{nothing: true}
}

// position is a new one.
func (m *Machine) position(set api.Set) part {
	var one part
	p := len(m.sets)
	one.first.put(p)
	one.last.put(p)
	m.sets = append(m.sets, set)
	m.follow = append(m.follow, row{})
	for b := range m.takes {
		if set[b/wordBits]>>(b%wordBits)&1 == 1 {
			m.takes[b].put(p)
		}
	}
	return one
}

// chain writes some trees, one behind the other.
func (m *Machine) chain(kids []api.Regex) part {
	whole := part{nothing: true}
	for _, kid := range kids {
		whole = m.joined(whole, m.write(kid))
	}
	return whole
}

// choice writes some trees of which one is to be.
func (m *Machine) choice(kids []api.Regex) part {
	var whole part
	for _, kid := range kids {
		one := m.write(kid)
		whole.nothing = whole.nothing || one.nothing
		whole.first.add(&one.first)
		whole.last.add(&one.last)
	}
	return whole
}

// joined is two parts, the one behind the other.
func (m *Machine) joined(a, b part) part {
	m.pair(&a.last, &b.first)
	both := part{a.nothing && b.nothing, a.first, b.last}
	if a.nothing {
		both.first.add(&b.first)
	}
	if b.nothing {
		both.last.add(&a.last)
	}
	return both
}

// pair lets each of some positions be followed by each of others.
func (m *Machine) pair(some, others *row) {
	for p := range some.all() {
		m.follow[p].add(others)
	}
}

// repeated writes out an RxRep. Without an end to it, its last one may follow itself; those beyond Min may be nothing.
func (m *Machine) repeated(r api.Regex) part {
	times := r.Max
	if r.Max == api.Infinite {
		times = max(r.Min, 1)
	}
	whole := part{nothing: true}
	for n := range times {
		one := m.write(r.Kids[0])
		if r.Max == api.Infinite && n == times-1 {
			m.pair(&one.last, &one.first)
		}
		one.nothing = one.nothing || n >= r.Min
		whole = m.joined(whole, one)
	}
	return whole
}
