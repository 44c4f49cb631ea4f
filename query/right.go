package query

import (
	"dragnet/api"
	"dragnet/fields"
)

// maxNodes is how many nodes there may be in a tree.
const maxNodes = 2048

// check tells whether a query may be, its length as a text left aside.
func check(q api.Query) api.Errno {
	if q.From < 0 || q.From > api.MaxStamp || q.To > forever || q.From > q.To {
		return api.ErrRange
	}
	var c checker
	return c.check(q.Expr, 1)
}

// checker goes over the nodes of a tree, each ahead of its Kids. It ends, whatever it is given: behind maxNodes nodes at the latest.
type checker struct {
	nodes int // how many were gone over
	terms int // how many of them are terms
}

// check goes over a node that is so deep.
func (c *checker) check(x api.Expr, deep int) api.Errno {
	switch {
	case c.nodes == maxNodes:
		return api.ErrQuery
	case deep > api.MaxDeep:
		return api.ErrDeep
	case !isNode(x):
		return api.ErrQuery
	}
	c.nodes++
	if x.Kind == api.ExTerm {
		return c.checkTerm(x.Term)
	}
	for _, kid := range x.Kids {
		if e := c.check(kid, deep+1); e != api.OK {
			return e
		}
	}
	return api.OK
}

// isNode tells whether a node has what its Kind has, its Kids' own left aside.
func isNode(x api.Expr) bool {
	bare := x.Term == api.Term{}
	switch x.Kind {
	case api.ExAll:
		return bare && len(x.Kids) == 0
	case api.ExTerm:
		return len(x.Kids) == 0
	case api.ExNot:
		return bare && len(x.Kids) == 1
	case api.ExAnd, api.ExOr:
		return bare && len(x.Kids) >= 2
	}
	return false
}

func (c *checker) checkTerm(t api.Term) api.Errno {
	if c.terms == api.MaxTerms {
		return api.ErrMany
	}
	c.terms++
	switch {
	case !isTerm(t):
		return api.ErrQuery
	case t.Kind == api.TermText && (t.Text == "" || len(t.Text) > api.MaxPattern):
		return api.ErrWord
	case t.Kind == api.TermRegex && !isRegexText(t.Text):
		return api.ErrRegex
	case t.Kind == api.TermField && !isFieldTerm(t):
		return api.ErrField
	}
	return api.OK
}

// isTerm tells whether a term has no more than its Kind has.
func isTerm(t api.Term) bool {
	switch t.Kind {
	case api.TermText, api.TermRegex:
		return t.Name == "" && t.Op == 0
	case api.TermField:
		return !t.Fold
	}
	return false
}

// isRegexText tells whether a text is the one of all that say its regex.
func isRegexText(s string) bool {
	text, _, ok := regexText(s)
	return ok && text == s
}

func isFieldTerm(t api.Term) bool {
	return fields.Name(t.Name) && t.Op >= api.OpIs && t.Op <= api.OpHas && len(t.Text) <= api.MaxPattern
}
