package nbe

import (
	"slices"

	"euclid/api"
)

// value is a term in weak head normal form, whose parts are evaluated when they are needed.
type value interface {
	// apply returns the value of the term applied to arguments, of which there is at least one.
	apply(e *evaluation, args []*lazy) value
	// spine returns what the term consists of.
	spine() spine
}

// spine is a head, its kids, and arguments. The head has no Kids itself, and if it is a variable, its Index is a place (see variable).
type spine struct {
	head api.Term
	kids []part
	args []*lazy
}

// part is a part of a value. It is called with the number of the binders above the value, and returns the value of the part and the number of the binders above this.
type part func(binders int) (value, int)

// lazy is a term that is evaluated when its value is needed for the first time.
type lazy struct {
	evaluate func() value // nil if the value is known
	value    value
}

func (l *lazy) force() value {
	if l.evaluate != nil {
		l.value = l.evaluate()
		l.evaluate = nil
	}
	return l.value
}

// beside is the part of a value that is not below a binder of it.
func (l *lazy) beside(binders int) (value, int) { return l.force(), binders }

// body is the part of a value that is below a binder of it, as a function of the variable.
type body func(arg *lazy) value

func (b body) below(binders int) (value, int) {
	return b(&lazy{value: variable(binders)}), binders + 1
}

// function is a Lam without arguments.
type function struct {
	domain *lazy
	body   body
}

func (f *function) apply(e *evaluation, args []*lazy) value {
	e.contract()
	return applied(e, f.body(args[0]), args[1:])
}

func (f *function) spine() spine {
	return spine{head: api.Term{Kind: api.Lam}, kids: []part{f.domain.beside, f.body.below}}
}

// pair is a Pair without arguments: its type and its components.
type pair struct{ kids [3]*lazy }

func (p *pair) apply(_ *evaluation, args []*lazy) value {
	s := p.spine()
	s.args = args
	return &neutral{of: s}
}

func (p *pair) spine() spine {
	return spine{head: api.Term{Kind: api.Pair}, kids: []part{p.kids[0].beside, p.kids[1].beside, p.kids[2].beside}}
}

// neutral is a term whose head is not contracted. If the head is a recursor or a function by cases, it may be with more arguments.
type neutral struct {
	of   spine
	rule rule
}

// rule says how a constant with enough arguments is contracted; contract returns false if it is not.
type rule struct {
	arguments int
	contract  func(args []*lazy) (value, bool)
}

func (n *neutral) apply(e *evaluation, args []*lazy) value {
	s := n.of
	s.args = slices.Concat(n.of.args, args)
	if enough := n.rule.arguments; len(n.of.args) < enough && enough <= len(s.args) {
		if v, ok := n.rule.contract(s.args[:enough]); ok {
			return applied(e, v, s.args[enough:])
		}
	}
	return &neutral{s, n.rule}
}

func (n *neutral) spine() spine { return n.of }

// variable returns the variable at a place: that of the outermost binder has the place 0, and the free variable i the place -1 - i.
func variable(place int) value {
	return &neutral{of: spine{head: api.Term{Kind: api.Var, Index: place}}}
}

func applied(e *evaluation, v value, args []*lazy) value {
	if len(args) == 0 {
		return v
	}
	return v.apply(e, args)
}
