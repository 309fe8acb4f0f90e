// Package binder tells which parts of terms are below binders, and moves free variables in terms of any size.
package binder

import "euclid/api"

// Below reports whether a kid of a node is below a binder of this node.
func Below(kind, kid int) bool {
	switch kind {
	case api.Lam, api.Pi, api.Sigma:
		return kid == 1
	case api.Let:
		return kid == 2
	}
	return false
}

// Shift adds a number to the Index of each free variable of a term. It changes the term itself. Other than subst.Shift it has no limits, which normal forms may exceed.
func Shift(t *api.Term, by int) {
	// No recursion: normal forms may be deep.
	type place struct {
		node    *api.Term
		binders int
	}
	stack := []place{{t, 0}}
	for len(stack) > 0 {
		p := stack[len(stack)-1]
		stack = stack[:len(stack)-1]
		if p.node.Kind == api.Var && p.node.Index >= p.binders {
			p.node.Index += by
		}
		for i := range p.node.Kids {
			kid := place{&p.node.Kids[i], p.binders}
			if Below(p.node.Kind, i) {
				kid.binders++
			}
			stack = append(stack, kid)
		}
	}
}
