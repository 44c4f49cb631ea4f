package query

import (
	"slices"

	"dragnet/api"
)

// all wants every line, none no line; each in new memory.
func all() api.Expr { return api.Expr{Kind: api.ExAll} }

func none() api.Expr { return api.Expr{Kind: api.ExNot, Kids: []api.Expr{all()}} }

// plain is a right tree made plain, in new memory.
func plain(x api.Expr) api.Expr {
	switch x.Kind {
	case api.ExNot:
		return opposite(plain(x.Kids[0]))
	case api.ExAnd:
		return joined(x, all(), none())
	case api.ExOr:
		return joined(x, none(), all())
	}
	return api.Expr{Kind: x.Kind, Term: copied(x.Term)}
}

// opposite is the ExNot of a plain tree, made plain.
func opposite(x api.Expr) api.Expr {
	if x.Kind == api.ExNot {
		return x.Kids[0]
	}
	return api.Expr{Kind: api.ExNot, Kids: []api.Expr{x}}
}

// joined is an ExAnd or ExOr made plain, among whose Kids the idle one changes nothing, and the ruling one says all.
func joined(x api.Expr, idle, ruling api.Expr) api.Expr {
	var left []api.Expr
	for _, kid := range x.Kids {
		for _, part := range parts(x.Kind, plain(kid)) {
			like := func(other api.Expr) bool { return same(part, other) }
			switch {
			case like(ruling):
				return ruling
			case !like(idle) && !slices.ContainsFunc(left, like):
				left = append(left, part)
			}
		}
	}
	if len(left) == 0 {
		return idle
	}
	return together(x.Kind, left)
}

// parts is what stands in the place of a Kid of a node of a kind.
func parts(kind int, kid api.Expr) []api.Expr {
	if kid.Kind == kind {
		return kid.Kids
	}
	return []api.Expr{kid}
}
