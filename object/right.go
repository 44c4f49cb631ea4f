package object

import (
	"unicode/utf8"

	"dragnet/api"
)

// maxValues is how many values there may be in one.
const maxValues = 65536

// checker goes over the values in one in order. It ends, whatever it is given: behind maxValues values at the latest.
type checker struct {
	ahead int // how many values were gone over
	size  int // how many bytes they have as Print writes them; too many are not counted on
}

// check goes over a value that is so deep, if it is a list or an object.
func (c *checker) check(v api.Value, deep int) api.Errno {
	switch {
	case c.ahead == maxValues:
		return api.ErrLong
	case deep > api.MaxDeep && (v.Kind == api.ValList || v.Kind == api.ValObject):
		return api.ErrDeep
	case !isTree(v):
		return api.ErrTree
	case !isWritten(v):
		return api.ErrJSON
	case isTwice(v.Names):
		return api.ErrTwice
	}
	c.ahead++
	if c.size <= api.MaxJSON {
		c.size += ownSize(v)
	}
	for _, kid := range v.Kids {
		if e := c.check(kid, deep+1); e != api.OK {
			return e
		}
	}
	return api.OK
}

// isTree tells whether a value, its Kids' own left aside, has what its Kind has.
func isTree(v api.Value) bool {
	switch v.Kind {
	case api.ValNull, api.ValFalse, api.ValTrue:
		return v.Text == "" && len(v.Names) == 0 && len(v.Kids) == 0
	case api.ValNumber, api.ValText:
		return len(v.Names) == 0 && len(v.Kids) == 0
	case api.ValList:
		return v.Text == "" && len(v.Names) == 0
	case api.ValObject:
		return v.Text == "" && len(v.Names) == len(v.Kids)
	}
	return false
}

// isWritten tells whether there is a way to write what a value says itself.
func isWritten(v api.Value) bool {
	switch v.Kind {
	case api.ValNumber:
		return isNumber(v.Text)
	case api.ValText:
		return utf8.ValidString(v.Text)
	}
	for _, name := range v.Names {
		if !utf8.ValidString(name) {
			return false
		}
	}
	return true
}

// isNumber tells whether a text of any length is a number as it is written.
func isNumber(s string) bool {
	p := reader{text: s}
	f := attempt(func() { p.number() })
	return f.code == api.OK && p.atEnd()
}

func isTwice(names []string) bool {
	ahead := make(map[string]struct{}, len(names))
	for _, name := range names {
		ahead[name] = struct{}{}
	}
	return len(ahead) < len(names)
}
