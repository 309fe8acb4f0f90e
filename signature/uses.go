package signature

import (
	"iter"
	"slices"

	"euclid/api"
)

// Uses returns the names of the constants that a declaration uses and does not declare itself.
func Uses(d api.Decl) []string {
	known := map[string]bool{}
	for _, name := range Names(d) {
		known[name] = true
	}
	var names []string
	for name := range mentioned(&d) {
		if !known[name] {
			known[name] = true
			names = append(names, name)
		}
	}
	return names
}

// mentioned yields the names in a declaration, in order, as often as they occur.
func mentioned(d *api.Decl) iter.Seq[string] {
	return func(yield func(string) bool) {
		for _, t := range closedTerms(d) {
			for c := range constants(t) {
				if !yield(c.Name) {
					return
				}
			}
		}
		for _, f := range d.Funs {
			for name := range mentionedInTree(f.Tree) {
				if !yield(name) {
					return
				}
			}
		}
	}
}

// closedTerms returns the terms of a declaration, in order, but for those in case trees.
func closedTerms(d *api.Decl) []api.Term {
	terms := []api.Term{d.Type, d.Value}
	for _, c := range d.Ctors {
		terms = append(terms, c.Type)
	}
	terms = append(terms, d.Rec.Type)
	terms = append(terms, d.Rec.Rules...)
	for _, f := range d.Funs {
		terms = append(terms, f.Type)
	}
	return terms
}

// constants yields the constants of a term in preorder.
func constants(t api.Term) iter.Seq[*api.Term] {
	return func(yield func(*api.Term) bool) {
		// No recursion: nothing limits the depth of a term in Uses.
		stack := []*api.Term{&t}
		for len(stack) > 0 {
			node := stack[len(stack)-1]
			stack = stack[:len(stack)-1]
			if node.Kind == api.Const && !yield(node) {
				return
			}
			for i := range slices.Backward(node.Kids) {
				stack = append(stack, &node.Kids[i])
			}
		}
	}
}

// mentionedInTree yields the constructors of the branches and the constants of the leaves of a case tree in preorder.
func mentionedInTree(tree api.Tree) iter.Seq[string] {
	return func(yield func(string) bool) {
		// No recursion: nothing limits the depth of a case tree in Uses.
		root := api.Branch{Tree: tree}
		stack := []*api.Branch{&root}
		for len(stack) > 0 {
			b := stack[len(stack)-1]
			stack = stack[:len(stack)-1]
			if b != &root && !yield(b.Ctor) {
				return
			}
			switch {
			case b.Absurd:
			case b.Tree.Kind == api.TreeLeaf:
				for c := range constants(b.Tree.Body) {
					if !yield(c.Name) {
						return
					}
				}
			default:
				for i := range slices.Backward(b.Tree.Branches) {
					stack = append(stack, &b.Tree.Branches[i])
				}
			}
		}
	}
}
