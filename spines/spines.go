// Package spines takes applications apart and builds them like package telescope, but it copies nothing and has no limits: it is for terms on the way to a result.
package spines

import (
	"slices"

	"euclid/api"
)

// Of returns the head of a term, which is no App, and the arguments to which it is applied, as a new list.
func Of(t api.Term) (api.Term, []api.Term) {
	var args []api.Term
	for t.Kind == api.App {
		args = append(args, t.Kids[1])
		t = t.Kids[0]
	}
	slices.Reverse(args)
	return t, args
}

// Apply returns a term applied to arguments, one after another.
func Apply(f api.Term, args ...api.Term) api.Term {
	for _, arg := range args {
		f = api.Term{Kind: api.App, Kids: []api.Term{f, arg}}
	}
	return f
}
