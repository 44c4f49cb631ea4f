package lazy

// Sorts of sets. Of each of the first three there is one alone, in which no position is.
const (
	searchFront = iota // S0: where a search begins
	matchFront         // M0: where a match begins, at the front of a text
	matchWithin        // M1: where a match begins, at any other place
	searching          // a search, behind a byte or more
	matching           // a match, behind a byte or more
	sorts              // how many sorts there are
)

// set is what is looked up: two of different sorts are two, whatever their positions.
type set struct {
	sort      uint8
	positions row
}

// state is a set that is made, with what is known of it.
type state struct {
	set
	number            int      // how many were ever made up to this one: no two have the same
	next              []*state // by each kind of bytes; nil: nobody has asked yet
	shows, showsAtEnd bool     // a match shows there: at a place that is not the text's end, and at one that is
}

// want is the state of a set, which is kept from now on till a flush.
func (a *Auto) want(wanted set) *state {
	if known, ok := a.kept[wanted]; ok {
		return known
	}
	if len(a.kept) == a.most {
		a.flush()
	}
	made := a.newState(wanted)
	a.kept[wanted] = made
	return made
}

func (a *Auto) flush() {
	clear(a.kept)
	clear(a.starts[:])
	a.flushes++
}

// start is the state of a set in which a search or a match begins. The map is asked once alone, as Find comes here at each place.
func (a *Auto) start(sort uint8) *state {
	if a.starts[sort] == nil {
		a.starts[sort] = a.want(set{sort: sort})
	}
	return a.starts[sort]
}

// newState is made while there is room for it. (Each flush has thrown away as many as there is room for.)
func (a *Auto) newState(wanted set) *state {
	here := &a.begins[wanted.sort]
	return &state{
		set:        wanted,
		number:     a.flushes*a.most + len(a.kept) + 1,
		next:       make([]*state, len(a.takes)),
		shows:      here.nothing || wanted.positions.meets(&a.lastFree),
		showsAtEnd: here.nothingAtEnd || wanted.positions.meets(&a.last),
	}
}

// step is the next state by a byte.
func (a *Auto) step(from *state, b byte) *state {
	if next := from.next[a.kinds[b]]; next != nil {
		return next
	}
	return a.firstStep(from, a.kinds[b])
}

// firstStep makes a step that nobody has made yet. If there is a flush, from is thrown away in it, and what it is told doesn't matter any more: no state that is kept leads to one that was thrown away.
func (a *Auto) firstStep(from *state, kind uint8) *state {
	next := &a.nowhere
	if following := a.after(&from.set, kind); following != (set{sort: matching}) {
		next = a.want(following)
	}
	from.next[kind] = next
	return next
}

// after is the next set by a kind of bytes.
func (a *Auto) after(from *set, kind uint8) set {
	next := set{sort: matching, positions: a.begins[from.sort].first}
	if from.sort == searchFront || from.sort == searching {
		next.sort = searching
	}
	next.positions.addFollowing(&from.positions, a.follow)
	next.positions.keep(&a.takes[kind])
	return next
}
