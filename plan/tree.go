package plan

import (
	"cmp"
	"slices"

	"dragnet/api"
)

// node is one of a plain tree.
type node struct {
	kind   int
	term   int    // the number of an ExTerm's term
	kids   []node // the one that weighs least first: it may spare the others
	weight int    // of all terms in it
}

// nodeOf is a plain tree whose terms are those of a list, in the plan's order.
func (p *Plan) nodeOf(x api.Expr, list []api.Term) node {
	n := node{kind: x.Kind}
	if x.Kind == api.ExTerm {
		n.term = slices.Index(list, x.Term)
		n.weight = p.terms[n.term].weight
	}
	for _, kid := range x.Kids {
		k := p.nodeOf(kid, list)
		n.kids = append(n.kids, k)
		n.weight += k.weight
	}
	slices.SortStableFunc(n.kids, func(a, b node) int { return cmp.Compare(a.weight, b.weight) })
	return n
}

// look is a text that is looked at. A term that stands in the tree several times is asked of it once.
type look struct {
	terms       []term
	text        string
	asked, held uint64 // a bit for each term, by its number: there are at most MaxTerms
}

// wants tells whether the tree holds of a text.
func (p *Plan) wants(text string) bool {
	x := look{terms: p.terms, text: text}
	return x.holds(&p.tree)
}

func (x *look) holds(n *node) bool {
	switch n.kind {
	case api.ExTerm:
		return x.termHolds(n.term)
	case api.ExNot:
		return !x.holds(&n.kids[0])
	case api.ExAnd:
		return !x.hasKid(n, false)
	case api.ExOr:
		return x.hasKid(n, true)
	}
	return true
}

// hasKid: is there a Kid that holds, or one that does not?
func (x *look) hasKid(n *node, holds bool) bool {
	for k := range n.kids {
		if x.holds(&n.kids[k]) == holds {
			return true
		}
	}
	return false
}

func (x *look) termHolds(number int) bool {
	bit := uint64(1) << number
	if x.asked&bit == 0 {
		x.asked |= bit
		if x.terms[number].way.holds(x.text) {
			x.held |= bit
		}
	}
	return x.held&bit != 0
}
