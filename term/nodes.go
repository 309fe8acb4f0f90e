package term

import (
	"iter"
	"maps"
	"slices"

	"euclid/api"
)

// node is a node of a term at its place: below so many binders, and as many nodes deep, itself included.
type node struct {
	*api.Term
	binders, depth int
}

// nodes yields the nodes of a term in preorder. It has a stack of its own: a
// term that Check is to refuse may be too deep for recursion.
func nodes(t api.Term) iter.Seq[node] {
	return func(yield func(node) bool) {
		stack := []node{{Term: &t, depth: 1}}
		for len(stack) > 0 {
			n := stack[len(stack)-1]
			stack = stack[:len(stack)-1]
			if !yield(n) {
				return
			}
			binder := 0
			if isKind(n.Kind) {
				binder = shapes[n.Kind].binder
			}
			for i := len(n.Kids) - 1; i >= 0; i-- {
				kid := node{Term: &n.Kids[i], binders: n.binders, depth: n.depth + 1}
				if i > 0 && i == binder {
					kid.binders++
				}
				stack = append(stack, kid)
			}
		}
	}
}

// free returns the free variable that a node is, and whether it is one.
func (n node) free() (int, bool) {
	if n.Kind != api.Var || n.Index < n.binders {
		return 0, false
	}
	return n.Index - n.binders, true
}

// Size returns the number of nodes of a term.
func Size(t api.Term) int {
	size := 0
	for range nodes(t) {
		size++
	}
	return size
}

// Depth returns the number of nodes on the longest way down a term.
func Depth(t api.Term) int {
	depth := 0
	for n := range nodes(t) {
		depth = max(depth, n.depth)
	}
	return depth
}

// Free returns the free variables of a term in ascending order.
func Free(t api.Term) []int {
	found := map[int]bool{}
	for n := range nodes(t) {
		if i, ok := n.free(); ok {
			found[i] = true
		}
	}
	return slices.Sorted(maps.Keys(found))
}

// Occurs reports whether a variable occurs free in a term.
func Occurs(t api.Term, index int) bool {
	for n := range nodes(t) {
		if i, ok := n.free(); ok && i == index {
			return true
		}
	}
	return false
}

// Consts returns the names of the constants of a term in the order of their first occurrences.
func Consts(t api.Term) []string {
	names := newFirsts[string]()
	for n := range nodes(t) {
		if n.Kind == api.Const {
			names.add(n.Name)
		}
	}
	return names.list
}

// Metas returns the metavariables of a term in the order of their first occurrences.
func Metas(t api.Term) []int {
	indices := newFirsts[int]()
	for n := range nodes(t) {
		if n.Kind == api.Meta {
			indices.add(n.Index)
		}
	}
	return indices.list
}

// firsts lists values, each when it is added for the first time.
type firsts[T comparable] struct {
	seen map[T]bool
	list []T
}

func newFirsts[T comparable]() firsts[T] { return firsts[T]{seen: map[T]bool{}} }

func (f *firsts[T]) add(value T) {
	if !f.seen[value] {
		f.seen[value] = true
		f.list = append(f.list, value)
	}
}
