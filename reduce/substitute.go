package reduce

import (
	"euclid/api"
	"euclid/binder"
	"euclid/subst"
	"euclid/term"
)

// substitute is subst.Subst without its limit for the Index of a variable, which a variable in scope may exceed below binders.
func substitute(t api.Term, values []api.Term) (api.Term, api.Errno) {
	result, err := subst.Subst(t, values)
	if err != api.ErrScope {
		return result, err
	}
	// subst.Subst has counted the nodes: there are not too many.
	result = replaced(t, 0, func(free, binders int) api.Term {
		if free >= len(values) {
			return variableTerm(free - len(values) + binders)
		}
		return replaced(values[free], 0, func(free, more int) api.Term {
			return variableTerm(free + binders + more)
		})
	})
	if term.Depth(result) > api.MaxDepth {
		return api.Term{}, api.ErrDeep
	}
	return result, api.OK
}

// replaced returns a term in which each free variable is replaced by what with returns for it and for the number of the binders above.
func replaced(t api.Term, binders int, with func(free, binders int) api.Term) api.Term {
	if t.Kind == api.Var && t.Index >= binders {
		return with(t.Index-binders, binders)
	}
	kids := make([]api.Term, len(t.Kids))
	for i, kid := range t.Kids {
		below := binders
		if binder.Below(t.Kind, i) {
			below++
		}
		kids[i] = replaced(kid, below, with)
	}
	t.Kids = kids
	return t
}

func variableTerm(index int) api.Term { return api.Term{Kind: api.Var, Index: index} }
