package nbe

import (
	"slices"

	"euclid/api"
	"euclid/binder"
	"euclid/clone"
	"euclid/term"
)

// maxShort limits the nodes of a term that has a short form. Layer 10 comes to fewer.
const maxShort = 2 * maxForm

// Short returns the short form of a term.
func Short(t api.Term) api.Term {
	nodes := untyped(t)
	for _, node := range slices.Backward(nodes) {
		contractEta(node)
	}
	if len(nodes) == 0 {
		return api.Term{}
	}
	return *nodes[0]
}

// untyped returns the nodes of a copy of a term in which Prop is the type of all functions and pairs, each node ahead of its kids; or none if there are too many, as a part that is shared may stand in more places than memory can hold.
func untyped(t api.Term) []*api.Term {
	nodes := []*api.Term{&t}
	// No recursion: a normal form may be deep.
	for i := 0; i < len(nodes); i++ {
		node := nodes[i]
		node.Levels = clone.Levels(node.Levels)
		node.Kids = slices.Clone(node.Kids)
		for k := range node.Kids {
			if k == 0 && (is(node, api.Lam, 2) || is(node, api.Pair, 3)) {
				node.Kids[k] = api.Term{Kind: api.Prop}
				continue
			}
			nodes = append(nodes, &node.Kids[k])
		}
		if len(nodes) > maxShort {
			return nil
		}
	}
	return nodes
}

// contractEta replaces a function or a pair, whose parts are short, by that of which it is the eta expansion, if it is one.
func contractEta(node *api.Term) {
	switch {
	case is(node, api.Lam, 2):
		body := node.Kids[1]
		if is(&body, api.App, 2) && is(&body.Kids[1], api.Var, 0) && body.Kids[1].Index == 0 && !term.Occurs(body.Kids[0], 0) {
			*node = body.Kids[0]
			binder.Shift(node, -1)
		}
	case is(node, api.Pair, 3):
		first, second := node.Kids[1], node.Kids[2]
		if is(&first, api.Fst, 1) && is(&second, api.Snd, 1) && term.Same(first.Kids[0], second.Kids[0]) {
			*node = first.Kids[0]
		}
	}
}

// is reports whether a node has a kind and so many kids.
func is(node *api.Term, kind, kids int) bool { return node.Kind == kind && len(node.Kids) == kids }
