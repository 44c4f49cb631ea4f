package glushkov

// try is a match that began at a place and goes on.
type try struct {
	begin int
	next  row // the positions of which one must take the next byte
}

// search makes tries from place to place, all of them at one time, the one that began first ahead.
type search struct {
	m     *Machine
	tries []try
	least int // the least place from which there is a match, if one was found
	found bool
}

// leastBegin is the least place, not ahead of from, from which there is a match.
func (m *Machine) leastBegin(s string, from int) (int, bool) {
	x := search{m: m}
	for at := from; at <= len(s); at++ {
		if !x.found {
			x.begin(at, m.spot(at, len(s)))
		}
		if at == len(s) || x.found && len(x.tries) == 0 {
			break
		}
		x.step(s[at], &m.spot(at+1, len(s)).last)
	}
	return x.least, x.found
}

// begin makes a try from a place. Where nothing matches there is no need of one: those that are under way began ahead of it.
func (x *search) begin(at int, here *part) {
	if here.nothing {
		x.least, x.found = at, true
		return
	}
	x.tries = append(x.tries, try{at, here.first})
}

// step takes a byte. A position that a try has come to is kept from those that began later, as whatever they match from there on it matches too: so all tries together have no more positions than there are. Behind a match those that began later can't tell a lesser place.
func (x *search) step(b byte, last *row) {
	var taken row
	left := x.tries[:0]
	for _, t := range x.tries {
		t.next.keep(&x.m.takes[b])
		t.next.drop(&taken)
		if t.next.isEmpty() {
			continue
		}
		if t.next.meets(last) {
			x.least, x.found = t.begin, true
			break
		}
		taken.add(&t.next)
		left = append(left, try{t.begin, x.m.after(&t.next)})
	}
	x.tries = left
}
