package lazy

import (
	"dragnet/api"
	"dragnet/glushkov"
	"dragnet/syntax"
)

// rules say how sets follow one another, and what shows in them.
type rules struct {
	kinds          [256]uint8   // of each byte: those of one kind are in the same positions' Sets, so a set goes on by them alike
	takes          []row        // of each kind of bytes: the positions whose Sets have them
	follow         []row        // of each position: those that may come next
	begins         [sorts]begin // of each sort of sets
	last, lastFree row          // the last positions of all branches, and of those that are not tied behind
}

// begin is what may begin at the place of a set, besides what goes on there.
type begin struct {
	first                 row
	nothing, nothingAtEnd bool // a match of nothing: at a place that is not the text's end, and at one that is
}

// rulesOf asks a regex's machine once for all, as it tells lists.
func rulesOf(r api.Regex, m *glushkov.Machine) rules {
	first, last := rowOf(m.First()), rowOf(m.Last())
	freeInFront, freeBehind := untied(r)
	freeInFront.keep(&first)
	freeBehind.keep(&last)
	x := rules{last: last, lastFree: freeBehind}
	atFront := begin{first, matchesNothing(m, "-", 0), matchesNothing(m, "", 0)}
	within := begin{freeInFront, matchesNothing(m, "--", 1), matchesNothing(m, "-", 1)}
	x.begins[searchFront], x.begins[matchFront] = atFront, atFront
	x.begins[searching], x.begins[matchWithin] = within, within // and nothing begins in a match that is under way
	for p := range m.Len() {
		x.follow = append(x.follow, rowOf(m.Follow(p)))
	}
	x.sortBytes(m)
	return x
}

// matchesNothing: is there a match from a place of a text to that place? (It hangs on where the place is, not on the bytes.)
func matchesNothing(m *glushkov.Machine, s string, at int) bool {
	found := false
	for place := range m.Ends(s, at) {
		found = found || place == at
	}
	return found
}

// untied is the positions of all branches that are not tied in front, and of all that are not tied behind. A branch's own stand side by side, in the order of the branches.
func untied(r api.Regex) (inFront, behind row) {
	p := 0
	for _, branch := range branchesOf(r) {
		tiedInFront, tiedBehind := tiesOf(branch)
		for range syntax.Positions(branch) {
			if !tiedInFront {
				inFront.put(p)
			}
			if !tiedBehind {
				behind.put(p)
			}
			p++
		}
	}
	return inFront, behind
}

func branchesOf(r api.Regex) []api.Regex {
	if r.Kind == api.RxAlt {
		return r.Kids
	}
	return []api.Regex{r}
}

func tiesOf(branch api.Regex) (inFront, behind bool) {
	parts := []api.Regex{branch}
	if branch.Kind == api.RxCat {
		parts = branch.Kids
	}
	return parts[0].Kind == api.RxBegin, parts[len(parts)-1].Kind == api.RxEnd
}

// sortBytes finds the kinds of bytes.
func (x *rules) sortBytes(m *glushkov.Machine) {
	known := map[row]uint8{}
	for b, taken := range takenBy(m) {
		kind, ok := known[taken]
		if !ok {
			kind = uint8(len(x.takes))
			known[taken] = kind
			x.takes = append(x.takes, taken)
		}
		x.kinds[b] = kind
	}
}

// takenBy is, of each byte, the positions whose Sets have it.
func takenBy(m *glushkov.Machine) [256]row {
	var takes [256]row
	for p := range m.Len() {
		set, _ := m.Set(p)
		for b := range takes {
			if set[b/wordBits]>>(b%wordBits)&1 == 1 {
				takes[b].put(p)
			}
		}
	}
	return takes
}
