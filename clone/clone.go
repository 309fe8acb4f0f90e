// Package clone copies terms of any form.
package clone

import (
	"slices"

	"euclid/api"
)

// maxNodes is far above the number of nodes of any term that is accepted.
const maxNodes = 1 << 16

// Term returns a copy of a term. One with more than maxNodes nodes is returned as it is: a part that stands in many places may give it more nodes than any memory can hold.
func Term(t api.Term) api.Term {
	// No recursion: nothing limits the depth of the term.
	result, nodes := t, 0
	stack := []*api.Term{&result}
	for len(stack) > 0 {
		node := stack[len(stack)-1]
		stack = stack[:len(stack)-1]
		node.Levels = Levels(node.Levels)
		node.Kids = slices.Clone(node.Kids)
		for i := range node.Kids {
			stack = append(stack, &node.Kids[i])
		}
		nodes++
		if nodes > maxNodes {
			return t
		}
	}
	return result
}

// Levels returns a copy of a list of levels.
func Levels(levels []api.Level) []api.Level {
	result := slices.Clone(levels)
	for i, l := range result {
		result[i].Vars = slices.Clone(l.Vars)
	}
	return result
}
