package object

import (
	"slices"
	"strconv"
	"strings"

	"dragnet/api"
)

// follow is what a path leads to from a right value.
func follow(v api.Value, path string) (api.Value, bool) {
	if path != "" && path[0] != '[' {
		path = "." + path // so that the first name is read as the others are
	}
	for path != "" {
		var kid int
		kid, path = step(v, path)
		if kid < 0 || kid >= len(v.Kids) {
			return api.Value{}, false
		}
		v = v.Kids[kid]
	}
	return v, true
}

// step is the number of the Kid to which the first step of a path leads (below 0: to none), and what is left of the path.
func step(v api.Value, path string) (int, string) {
	sign, rest := path[0], path[1:]
	switch {
	case sign == '.':
		name := rest
		if end := strings.IndexAny(rest, ".[]"); end >= 0 {
			name = rest[:end]
		}
		return named(v, name), rest[len(name):]
	case sign == '[' && v.Kind == api.ValList:
		digits, behind, closed := strings.Cut(rest, "]")
		if closed {
			return numberOf(digits), behind
		}
	}
	return -1, ""
}

func named(v api.Value, name string) int {
	if name == "" {
		return -1 // a path has no way to tell an empty name
	}
	return slices.Index(v.Names, name)
}

// numberOf is a number in the one form in which a path has it.
func numberOf(digits string) int {
	n, err := strconv.Atoi(digits)
	if err != nil || strconv.Itoa(n) != digits {
		return -1
	}
	return n
}

// flatten goes over the plain values in a value that is at a path, until it is told to leave off.
func flatten(v api.Value, path string, yield func(string, string) bool) bool {
	switch v.Kind {
	case api.ValList:
		for i, kid := range v.Kids {
			if !flatten(kid, path+"["+strconv.Itoa(i)+"]", yield) {
				return false
			}
		}
		return true
	case api.ValObject:
		if path != "" {
			path += "."
		}
		for i, kid := range v.Kids {
			if !flatten(kid, path+v.Names[i], yield) {
				return false
			}
		}
		return true
	}
	return yield(path, plainText(v))
}
