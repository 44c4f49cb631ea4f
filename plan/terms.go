package plan

import (
	"slices"

	"dragnet/api"
	"dragnet/factors"
	"dragnet/fields"
	"dragnet/lazy"
	"dragnet/literal"
	"dragnet/many"
	"dragnet/swar"
	"dragnet/syntax"
)

// What terms weigh, a regex's positions left aside.
const (
	textWeight  = 1
	fieldWeight = 2
	regexWeight = 3
)

// roomOfStates is how many states each regex's automaton may keep.
const roomOfStates = 1024

// term is one that is made ready.
type term struct {
	way    way
	weight int
}

// way is how something is asked of a line's text.
type way interface {
	holds(text string) bool
}

// prepared makes a right term ready. What it is made of is right too, so no call refuses it.
func prepared(t api.Term) term {
	switch t.Kind {
	case api.TermText:
		return term{wordOf(t.Text, t.Fold), textWeight}
	case api.TermField:
		return term{field{t.Name, t.Op, t.Text}, fieldWeight}
	}
	r, _, _ := syntax.Parse(t.Text)
	return term{regexOf(r, t.Fold), regexWeight + syntax.Positions(r)}
}

// word asks whether a word stands there.
type word struct{ finder *literal.Finder }

func wordOf(text string, fold bool) way {
	f, _ := literal.Compile(text, fold, api.KernelAuto)
	return word{f}
}

func (w word) holds(text string) bool { return w.finder.Find(text, 0) >= 0 }

// words asks whether one of some words stands there.
type words struct{ set *many.Set }

func wordsOf(list []string, fold bool) way {
	if fold {
		list = foldedOnce(list)
	}
	if len(list) == 1 {
		return wordOf(list[0], fold) // the kernels for one word are quicker
	}
	set, _, _ := many.New(list, fold)
	return words{set}
}

// foldedOnce is some words without capitals, each of them once, as a set that folds wants them.
func foldedOnce(list []string) []string {
	var folded []string
	for _, text := range list {
		if text = swar.Fold(text); !slices.Contains(folded, text) {
			folded = append(folded, text)
		}
	}
	return folded
}

func (w words) holds(text string) bool { return w.set.Any(text) }

// field asks how the value of a field stands to another one.
type field struct {
	name string
	op   int
	want string
}

func (f field) holds(text string) bool {
	value, ok := fields.Get(text, f.name)
	return ok && fields.Is(value, f.op, f.want)
}

// match asks whether a regex matches somewhere. Its automaton is made when it is asked first: that may take milliseconds, and many a plan is asked of no line that comes so far.
type match struct {
	regex api.Regex
	auto  *lazy.Auto
}

func (m *match) holds(text string) bool {
	if m.auto == nil {
		m.auto, _ = lazy.New(m.regex, roomOfStates)
	}
	return m.auto.Has(text)
}

// sieved asks the second way only where the first one, which is quicker, holds.
type sieved struct{ sieve, then way }

func (s sieved) holds(text string) bool { return s.sieve.holds(text) && s.then.holds(text) }

// regexOf puts the words that each match must have ahead of the automaton, if such words are known.
//
// They are those of the regex as it is, also where letters' case doesn't count: whatever matches then is, but for case, what the regex as it is matches; and of the folded regex they would soon be too many to be known.
func regexOf(r api.Regex, fold bool) way {
	needed, _ := factors.Need(r)
	if fold {
		r = syntax.Fold(r)
	}
	if len(needed) == 0 { // also, if there is no match at all, which the automaton tells
		return &match{regex: r}
	}
	return sieved{wordsOf(needed, fold), &match{regex: r}}
}
