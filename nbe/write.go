package nbe

import (
	"slices"

	"euclid/api"
	"euclid/clone"
)

// maxForm limits the nodes of a normal form. The term and the result of each contraction of a light reduction have at most MaxNodes nodes, and nothing else is in its normal form. (As many again are for a normal form to which something is applied.)
const maxForm = api.MaxNodes * (api.MaxLight + 2)

// gap is a node of the normal form that is still to be written: that of a part of a value which is below so many binders.
type gap struct {
	node    *api.Term
	part    part
	binders int
}

// normalForm returns the normal form of a term.
func (e *evaluation) normalForm(t *api.Term) api.Term {
	var result api.Term
	// No recursion: a normal form may be deep.
	gaps := []gap{{node: &result, part: e.later(t, nil).beside}}
	for len(gaps) > 0 {
		g := gaps[len(gaps)-1]
		v, binders := g.part(g.binders)
		gaps = e.write(gaps[:len(gaps)-1], g.node, v.spine(), binders)
	}
	return result
}

// write writes a value, which is below so many binders, and adds the gaps for its parts, of which the first one comes last.
func (e *evaluation) write(gaps []gap, node *api.Term, s spine, binders int) []gap {
	for _, arg := range slices.Backward(s.args) {
		e.count()
		*node = api.Term{Kind: api.App, Kids: make([]api.Term, 2)}
		gaps = append(gaps, gap{&node.Kids[1], arg.beside, binders})
		node = &node.Kids[0]
	}
	e.count()
	*node = api.Term{Kind: s.head.Kind, Index: s.head.Index, Name: s.head.Name, Levels: clone.Levels(s.head.Levels)}
	if node.Kind == api.Var {
		node.Index = binders - 1 - s.head.Index
	}
	if len(s.kids) > 0 {
		node.Kids = make([]api.Term, len(s.kids))
	}
	for i, kid := range slices.Backward(s.kids) {
		gaps = append(gaps, gap{&node.Kids[i], kid, binders})
	}
	return gaps
}

// count counts a node of the normal form.
func (e *evaluation) count() {
	e.nodes++
	if e.nodes > maxForm {
		giveUp()
	}
}
