package reduce

import (
	"slices"

	"euclid/api"
	"euclid/constants"
)

// descent goes down a case tree.
type descent struct {
	*reduction
	whole spine // the function with its arguments
	vars  []variable
	leaf  func(body api.Term, values []api.Term) outcome // what comes of a leaf; the values are those for the term variables
}

// variable is a variable of a case tree: argument at of the whole, or, if parent is not isArgument, argument at of the value of the variable parent.
type variable struct {
	value      api.Term
	parent, at int
}

const isArgument = -1

func arguments(args []api.Term) []variable {
	vars := make([]variable, len(args))
	for i, arg := range args {
		vars[i] = variable{arg, isArgument, i}
	}
	return vars
}

// down goes on with a tree.
func (d descent) down(tree api.Tree) outcome {
	if tree.Kind == api.TreeLeaf {
		return d.leaf(tree.Body, d.values())
	}
	return outcome{look: &look{
		scrutinee: d.vars[tree.Var].value,
		resume: func(seen api.Term) outcome {
			ctor, fields, ok := d.constructor(seen)
			if !ok {
				return outcome{}
			}
			branch, ok := constants.Branch(&tree, spineOf(seen).head.Name)
			if !ok {
				return outcome{}
			}
			return d.below(tree.Var, fields, ctor.Domains-len(fields)).down(branch.Tree)
		},
		stuck: func(api.Term) api.Term { return d.whole.term() },
		put:   func(other api.Term) api.Term { return d.replaced(tree.Var, other) },
	}}
}

// below returns the descent with the fields of a variable, which are its arguments from first on, as further variables.
func (d descent) below(parent int, fields []api.Term, first int) descent {
	d.vars = slices.Clip(d.vars)
	for i, field := range fields {
		d.vars = append(d.vars, variable{field, parent, first + i})
	}
	return d
}

// values returns the values of the term variables: the last variable of the tree is the first one.
func (d descent) values() []api.Term {
	values := make([]api.Term, 0, len(d.vars))
	for _, v := range slices.Backward(d.vars) {
		values = append(values, v.value)
	}
	return values
}

// replaced returns the whole with another term in the place where a variable stands.
func (d descent) replaced(v int, other api.Term) api.Term {
	for ; d.vars[v].parent != isArgument; v = d.vars[v].parent {
		other = spineOf(d.vars[d.vars[v].parent].value).with(d.vars[v].at, other).term()
	}
	return d.whole.with(d.vars[v].at, other).term()
}
