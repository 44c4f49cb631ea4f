package literal

import "dragnet/swar"

// single looks for one byte.
type single struct {
	forms [2]byte
}

func newSingle(n needle) *single { return &single{n.forms(n.pattern[0])} }

func (x *single) look(s string, from int) int {
	if x.forms[0] == x.forms[1] {
		return swar.Index(s, x.forms[0], from)
	}
	return swar.IndexOf(s, from, x.forms[:]...)
}

// pair looks for the first and the last byte, eight places at a time, and for the others where both stand.
type pair struct {
	needle
	first, last uint64 // each in all bytes of a word
}

func newPair(n needle) *pair {
	last := len(n.pattern) - 1
	return &pair{n, swar.Spread(n.pattern[0]), swar.Spread(n.pattern[last])}
}

func (x *pair) look(s string, from int) int {
	gap := len(x.pattern) - 1
	end := len(s) - gap
	for at := from; at < end; at += 8 {
		marks := swar.Equal(x.load(s, at), x.first) & swar.Equal(x.load(s, at+gap), x.last)
		for ; marks != 0; marks &= marks - 1 {
			place := at + swar.First(marks)
			// Behind the text's end Load has noughts, and the pattern may have some too.
			if place < end && x.is(s[place:place+gap+1]) {
				return place
			}
		}
	}
	return -1
}

func (x *pair) load(s string, at int) uint64 {
	w := swar.Load(s, at)
	if x.fold {
		return swar.Lower(w)
	}
	return w
}
