package lazy

// near is how many bytes a match goes without a trail: most end sooner, and so need no room for one.
const near = 16

// finder makes matches from place to place of a text, till one shows.
type finder struct {
	auto  *Auto
	text  string
	from  int
	trail []int // of each place from `from` on: the number of the state in which a match was there last; 0: none was there, or near its beginning
}

// match is the greatest place at which a match that begins at a place shows.
func (x *finder) match(begin int) (to int, found bool) {
	sort := uint8(matchWithin)
	if begin == 0 {
		sort = matchFront
	}
	at := x.auto.start(sort)
	for k := begin; k < len(x.text); k++ {
		if at.shows {
			to, found = k, true
		}
		at = x.auto.step(at, x.text[k])
		if at == &x.auto.nowhere || k-begin >= near && x.isTrodden(k+1, at) {
			return to, found
		}
	}
	if at.showsAtEnd {
		return len(x.text), true
	}
	return to, found
}

// isTrodden: was a match that began earlier in this state at this place? Then there is no need to go on: that one showed nothing, so this one shows nothing more; and all sets that it wanted from there on are still kept, as a flush would have thrown this state away too.
func (x *finder) isTrodden(place int, at *state) bool {
	k := place - x.from
	for len(x.trail) <= k {
		x.trail = append(x.trail, 0)
	}
	if x.trail[k] == at.number {
		return true
	}
	x.trail[k] = at.number
	return false
}
