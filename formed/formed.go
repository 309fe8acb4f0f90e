// Package formed tells which terms may be formed where a reduction is to be light, and puts values into terms with no other limit.
package formed

import (
	"euclid/api"
	"euclid/binder"
	"euclid/subst"
	"euclid/term"
)

// Fits reports whether a term has neither too many nodes nor too great a depth.
func Fits(t api.Term) bool { return new(measure).fits(&t, 1) }

// measure counts the nodes of a term. It stops at the first one that is too many or too deep.
type measure struct{ nodes int }

func (m *measure) fits(t *api.Term, depth int) bool {
	m.nodes++
	if m.nodes > api.MaxNodes || depth > api.MaxDepth {
		return false
	}
	for i := range t.Kids {
		if !m.fits(&t.Kids[i], depth+1) {
			return false
		}
	}
	return true
}

// Subst is subst.Subst without its limit for the Index of a variable, which a variable in scope may exceed below binders.
func Subst(t api.Term, values []api.Term) (api.Term, api.Errno) {
	result, err := subst.Subst(t, values)
	if err != api.ErrScope {
		return result, err
	}
	// subst.Subst has counted the nodes: there are not too many.
	result = replaced(t, 0, func(free, binders int) api.Term {
		if free >= len(values) {
			return variable(free - len(values) + binders)
		}
		return replaced(values[free], 0, func(free, more int) api.Term {
			return variable(free + binders + more)
		})
	})
	if term.Depth(result) > api.MaxDepth {
		return api.Term{}, api.ErrDeep
	}
	return result, api.OK
}

// replaced returns a term in which each free variable is replaced by what with returns for it and for the number of the binders above.
func replaced(t api.Term, binders int, with func(free, binders int) api.Term) api.Term {
	if t.Kind == api.Var && t.Index >= binders {
		return with(t.Index-binders, binders)
	}
	kids := make([]api.Term, len(t.Kids))
	for i, kid := range t.Kids {
		below := binders
		if binder.Below(t.Kind, i) {
			below++
		}
		kids[i] = replaced(kid, below, with)
	}
	t.Kids = kids
	return t
}

func variable(index int) api.Term { return api.Term{Kind: api.Var, Index: index} }
