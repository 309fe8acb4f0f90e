package typing

import (
	"slices"

	"euclid/api"
	"euclid/binder"
	"euclid/clone"
	"euclid/subst"
	"euclid/telescope"
	"euclid/term"
)

// scope is a context: that from outside, which may be long and is not copied, and the variables of the binders since.
type scope struct {
	outer, inner []api.Term
	known        []known
}

// known is the value of a Let around, with its type, in the scope where it had so many inner variables. Without these, a value with Lets in it would be typed anew in each place where it stands, and so would the values in it.
type known struct {
	term, of api.Term
	inner    int
}

// with returns the scope with one more variable.
func (s scope) with(domain api.Term) scope {
	s.inner = append(slices.Clip(s.inner), domain)
	return s
}

// knowing returns the scope with one more term whose type is known.
func (s scope) knowing(t, of api.Term) scope {
	s.known = append(slices.Clip(s.known), known{t, of, len(s.inner)})
	return s
}

// lookup returns the type of a variable, as telescope.Lookup for the whole context does.
func (s scope) lookup(index int) api.Term {
	n := len(s.inner)
	if index < n {
		return must(telescope.Lookup(s.inner, index))
	}
	return must(subst.Shift(must(telescope.Lookup(s.outer, index-n)), n, 0))
}

// find returns the type of a term if it is known.
func (s scope) find(t api.Term) (api.Term, bool) {
	for i := range s.known {
		k := &s.known[i]
		if by := len(s.inner) - k.inner; isShifted(&t, &k.term, by, 0) {
			of := clone.Term(k.of)
			binder.Shift(&of, by)
			return of, true
		}
	}
	return api.Term{}, false
}

// isShifted reports whether a node, which is below so many binders, is another one whose free variables are shifted by a number.
func isShifted(t, other *api.Term, by, binders int) bool {
	a, b := *t, *other
	a.Kids, b.Kids = nil, nil
	if b.Kind == api.Var && b.Index >= binders {
		b.Index += by
	}
	if len(t.Kids) != len(other.Kids) || !term.Same(a, b) {
		return false
	}
	for i := range t.Kids {
		below := binders
		if binder.Below(t.Kind, i) {
			below++
		}
		if !isShifted(&t.Kids[i], &other.Kids[i], by, below) {
			return false
		}
	}
	return true
}
