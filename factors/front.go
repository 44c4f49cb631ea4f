package factors

import (
	"slices"

	"dragnet/api"
	"dragnet/swar"
)

// front is how the texts of a part begin, with one text behind them all.
type front struct {
	text  string // the longest with which each of them begins
	least int    // how many bytes the part's own shortest text has
}

// frontOf tells it of a tree that is right; false, if the part has no texts. A row is gone through from its end: what all texts behind a part begin with is all that counts of them.
func frontOf(r api.Regex, behind string) (front, bool) {
	switch r.Kind {
	case api.RxSet:
		return frontOfSet(r.Set, behind)
	case api.RxCat:
		return frontOfRow(r.Kids, behind)
	case api.RxAlt:
		return frontOfChoice(r.Kids, behind)
	case api.RxRep:
		return frontOfTimes(r, behind)
	}
	return front{text: behind}, true
}

func frontOfSet(set api.Set, behind string) (front, bool) {
	texts, few := bytesOf(set)
	switch {
	case few && len(texts) == 0:
		return front{}, false
	case few && len(texts) == 1:
		return front{texts.laidOut()[0] + behind, 1}, true
	}
	return front{"", 1}, true
}

func frontOfRow(kids []api.Regex, behind string) (front, bool) {
	whole := front{text: behind}
	for _, kid := range slices.Backward(kids) {
		one, ok := frontOf(kid, whole.text)
		if !ok {
			return front{}, false
		}
		whole = front{one.text, one.least + whole.least}
	}
	return whole, true
}

func frontOfChoice(kids []api.Regex, behind string) (front, bool) {
	var whole front
	found := false
	for _, kid := range kids {
		one, ok := frontOf(kid, behind)
		switch {
		case !ok:
		case !found:
			whole, found = one, true
		default:
			whole = front{common(whole.text, one.text), min(whole.least, one.least)}
		}
	}
	return whole, found
}

func common(a, b string) string { return a[:swar.Common(a, b)] }

// frontOfTimes asks its Kid no more often than counts are written out, so that counts within counts take no longer than the tree may be.
func frontOfTimes(r api.Regex, behind string) (front, bool) {
	none := front{text: behind}
	if r.Max == 0 {
		return none, true
	}
	once, ok := frontOf(r.Kids[0], behind)
	switch {
	case !ok && r.Min == 0:
		return none, true
	case !ok:
		return front{}, false
	case r.Max != r.Min:
		none, once = shared(none, once)
	}
	if r.Min == 0 {
		return none, true
	}
	whole := once
	for range r.Min - 1 {
		whole, _ = frontOf(r.Kids[0], whole.text)
	}
	return front{whole.text, once.least * r.Min}, true
}

// shared takes what stands behind a part, and the part once ahead of it, and leaves behind only what both begin with.
//
// That does for any number of times: if the text behind, and each text of the part with it, begin with s, then so does each text of the part with s alone behind it, as it is no shorter than s; and so on.
//
// A text of the part with s behind it is a beginning of what it was with all behind it. So what they all begin with is what it was, cut off where the shortest of them ends.
func shared(none, once front) (front, front) {
	none.text = common(none.text, once.text)
	once.text = once.text[:min(len(once.text), once.least+len(none.text))]
	return none, once
}
