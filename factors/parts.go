package factors

import (
	"maps"
	"slices"

	"dragnet/api"
)

// part is what is known of a part of a tree.
type part struct {
	few   bool
	texts words // all its texts, if they are few
	needs bool
	need  words // what N says of it, if it says something
}

// look goes over a tree that is right once: what is known of a part is made of what is known of its Kids. Lists that are known are never changed, so a part may have those of its Kid.
func look(r api.Regex) part {
	var kids []part
	for _, kid := range r.Kids {
		kids = append(kids, look(kid))
	}
	var p part
	p.texts, p.few = textsOf(r, kids)
	p.need, p.needs = p.needOf(r, kids)
	return p
}

// isVoid: are there no texts of it?
func (p part) isVoid() bool { return p.few && len(p.texts) == 0 }

// isBare: has none of its texts a byte?
func (p part) isBare() bool {
	return p.isVoid() || p.few && len(p.texts) == 1 && p.texts.has("")
}

func textsOf(r api.Regex, kids []part) (words, bool) {
	switch r.Kind {
	case api.RxSet:
		return bytesOf(r.Set)
	case api.RxCat:
		return row(kids)
	case api.RxAlt:
		return choice(kids)
	case api.RxRep:
		return kids[0].times(r.Min, r.Max)
	}
	return emptyText(), true
}

func bytesOf(set api.Set) (words, bool) {
	all := words{}
	for b := range 256 {
		if set[b/64]>>(b%64)&1 == 1 && !all.take(string([]byte{byte(b)})) {
			return nil, false
		}
	}
	return all, true
}

// behind is each text of a run with each of a part behind it, if these are few. (Of a part whose texts are not few they are not, as the run has texts.)
func (p part) behind(run words) (words, bool) {
	if !p.few {
		return nil, false
	}
	return joined(run, p.texts)
}

// row is the texts of some parts one behind the other. One part that has none is asked for ahead of all, as it makes few what else is not.
func row(kids []part) (words, bool) {
	if slices.ContainsFunc(kids, part.isVoid) {
		return words{}, true
	}
	all, few := emptyText(), true
	for _, kid := range kids {
		if all, few = kid.behind(all); !few {
			return nil, false
		}
	}
	return all, true
}

func choice(kids []part) (words, bool) {
	all := words{}
	for _, kid := range kids {
		if !kid.few || !all.takeAll(kid.texts) {
			return nil, false
		}
	}
	return all, true
}

// times is the texts of a part, low to high times one behind the other. It ends early: each time makes a longer text, but of a bare part, of which more than once says no more than once.
func (p part) times(low, high int) (words, bool) {
	if p.isBare() {
		low, high = onceAtMost(low), onceAtMost(high)
	}
	if high == api.Infinite {
		return nil, false
	}
	all, next, few := words{}, emptyText(), true
	for n := 0; ; n++ {
		if n >= low && !all.takeAll(next) {
			return nil, false
		}
		if n == high {
			return all, true
		}
		if next, few = p.behind(next); !few {
			return nil, false
		}
	}
}

func onceAtMost(count int) int {
	if count == 0 {
		return 0
	}
	return 1
}

// needOf is N.
func (p part) needOf(r api.Regex, kids []part) (words, bool) {
	if p.few && !p.texts.has("") {
		return reduced(p.texts), true
	}
	switch r.Kind {
	case api.RxCat:
		return needOfRow(kids)
	case api.RxAlt:
		return needOfChoice(kids)
	case api.RxRep:
		if r.Min >= 1 {
			return kids[0].need, kids[0].needs
		}
	}
	return nil, false
}

// needOfRow is the best list of all; as each part of the row has texts here, no list is without words; and no word is empty.
func needOfRow(kids []part) (words, bool) {
	var best words
	for _, run := range runsOf(kids) {
		if !run.has("") {
			best = better(best, reduced(run))
		}
	}
	for _, kid := range kids {
		if kid.needs {
			best = better(best, kid.need)
		}
	}
	return best, len(best) > 0
}

// runsOf is the texts of each run of a row whose parts all have texts.
func runsOf(kids []part) []words {
	var runs []words
	open := false // can the last run go on?
	for _, kid := range kids {
		if open {
			if longer, few := kid.behind(runs[len(runs)-1]); few {
				runs[len(runs)-1] = longer
				continue
			}
		}
		open = kid.few
		if open {
			runs = append(runs, kid.texts)
		}
	}
	return runs
}

// needOfChoice puts the lists of all parts together. (Of a part that has no texts that is no word, so it need not be left out.)
func needOfChoice(kids []part) (words, bool) {
	all := words{}
	for _, kid := range kids {
		if !kid.needs {
			return nil, false
		}
		maps.Copy(all, kid.need)
	}
	all = reduced(all)
	if len(all) > mostTexts {
		return nil, false
	}
	return all, true
}
