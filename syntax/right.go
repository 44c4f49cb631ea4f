package syntax

import "dragnet/api"

// spot is where a part stands.
type spot struct {
	deep       int  // how many parts stand within one another down to it
	outer      bool // it is the tree, or a Kid of a tree that is an RxAlt
	begin, end bool // an RxBegin may stand there, an RxEnd
}

// kid is the spot of a Kid, by its number, of a part that is at a spot.
func (at spot) kid(part api.Regex, k int) spot {
	below := spot{deep: at.deep + 1}
	switch {
	case part.Kind == api.RxAlt && at.deep == 1:
		below.outer, below.begin, below.end = true, true, true
	case part.Kind == api.RxCat && at.outer:
		below.begin, below.end = k == 0, k == len(part.Kids)-1
	}
	return below
}

// checker goes over the parts of a tree in order. It ends, whatever it is given: behind MaxParts parts at the latest.
type checker struct {
	ahead int // how many parts were gone over
}

func (c *checker) check(part api.Regex, at spot) api.Errno {
	switch {
	case !isPart(part):
		return api.ErrTree
	case at.deep > api.MaxDeep:
		return api.ErrDeep
	case part.Kind == api.RxBegin && !at.begin, part.Kind == api.RxEnd && !at.end:
		return api.ErrAnchor
	case c.ahead >= api.MaxParts:
		return api.ErrMany
	}
	c.ahead++
	for k, kid := range part.Kids {
		if e := c.check(kid, at.kid(part, k)); e != api.OK {
			return e
		}
	}
	return api.OK
}

// isPart tells whether a part, its Kids' own left aside, has what its Kind has.
func isPart(r api.Regex) bool {
	if r.Kind != api.RxSet && r.Set != (api.Set{}) {
		return false
	}
	if r.Kind != api.RxRep && (r.Min != 0 || r.Max != 0) {
		return false
	}
	switch r.Kind {
	case api.RxEmpty, api.RxSet, api.RxBegin, api.RxEnd:
		return len(r.Kids) == 0
	case api.RxCat, api.RxAlt:
		return len(r.Kids) >= 2
	case api.RxRep:
		return len(r.Kids) == 1 && isCount(r.Min, r.Max)
	}
	return false
}

func isCount(low, high int) bool {
	return low >= 0 && low <= api.MaxCount && (high == api.Infinite || high >= low && high <= api.MaxCount)
}

// tally is how many leaves and sets there are, written out; what is beyond a limit is told as one more than that, so that no number goes round.
type tally struct {
	leaves, sets int
}

func atMost(leaves, sets int) tally {
	return tally{min(leaves, api.MaxParts+1), min(sets, api.MaxPositions+1)}
}

// writtenOut counts in a tree that check took.
func writtenOut(r api.Regex) tally {
	switch r.Kind {
	case api.RxCat, api.RxAlt:
		var all tally
		for _, kid := range r.Kids {
			n := writtenOut(kid)
			all = atMost(all.leaves+n.leaves, all.sets+n.sets)
		}
		return all
	case api.RxRep:
		if r.Max == 0 {
			return tally{leaves: 1}
		}
		n, times := writtenOut(r.Kids[0]), r.Max
		if times == api.Infinite {
			times = max(r.Min, 1)
		}
		return atMost(n.leaves*times, n.sets*times)
	case api.RxSet:
		return tally{leaves: 1, sets: 1}
	}
	return tally{leaves: 1}
}
