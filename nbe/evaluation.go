package nbe

import (
	"slices"

	"euclid/api"
	"euclid/constants"
)

// maxNested limits the evaluations in evaluations. Those of a light reduction come to MaxDepth nodes in one another for the term and for each contraction.
const maxNested = api.MaxDepth * (api.MaxLight + 2)

// evaluation evaluates terms. It gives up if too many contractions are needed.
type evaluation struct {
	env          []api.Decl
	constants    *constants.Table
	contractions int // that are still allowed
	nested       int
	nodes        int // of the normal form so far
}

// scope has the values of the bound variables, the innermost one first. The nil scope has none.
type scope struct {
	value *lazy
	outer *scope
}

func (s *scope) with(value *lazy) *scope { return &scope{value, s} }

// find returns the value of a variable, or nil and the number of the free variable that it is.
func (s *scope) find(index int) (*lazy, int) {
	for ; s != nil; s = s.outer {
		if index == 0 {
			return s.value, 0
		}
		index--
	}
	return nil, index
}

// contract counts a contraction.
func (e *evaluation) contract() {
	e.contractions--
	if e.contractions < 0 {
		giveUp()
	}
}

// value evaluates a term.
func (e *evaluation) value(t *api.Term, s *scope) value {
	e.nested++
	if e.nested > maxNested {
		giveUp()
	}
	var args []*lazy
	for t.Kind == api.App {
		args = append(args, e.later(&t.Kids[1], s))
		t = &t.Kids[0]
	}
	slices.Reverse(args)
	v := applied(e, e.head(t, s), args)
	e.nested--
	return v
}

// later returns a term that is evaluated when its value is needed.
func (e *evaluation) later(t *api.Term, s *scope) *lazy {
	if t.Kind == api.Var {
		if known, _ := s.find(t.Index); known != nil {
			return known
		}
	}
	return &lazy{evaluate: func() value { return e.value(t, s) }}
}

// below returns the part of a term that is below a binder of it.
func (e *evaluation) below(t *api.Term, s *scope) body {
	return func(arg *lazy) value { return e.value(t, s.with(arg)) }
}

// head evaluates a term that is no App.
func (e *evaluation) head(t *api.Term, s *scope) value {
	switch t.Kind {
	case api.Var:
		known, free := s.find(t.Index)
		if known != nil {
			return known.force()
		}
		return variable(-1 - free)
	case api.Const:
		return e.constant(t)
	case api.Lam:
		return &function{e.later(&t.Kids[0], s), e.below(&t.Kids[1], s)}
	case api.Pi, api.Sigma:
		kids := []part{e.later(&t.Kids[0], s).beside, e.below(&t.Kids[1], s).below}
		return &neutral{of: spine{head: api.Term{Kind: t.Kind}, kids: kids}}
	case api.Pair:
		return &pair{[3]*lazy{e.later(&t.Kids[0], s), e.later(&t.Kids[1], s), e.later(&t.Kids[2], s)}}
	case api.Fst, api.Snd:
		return e.component(t.Kind, e.value(&t.Kids[0], s))
	case api.Let:
		e.contract()
		return e.value(&t.Kids[2], s.with(e.later(&t.Kids[1], s)))
	}
	return &neutral{of: spine{head: *t}}
}

// component evaluates a projection.
func (e *evaluation) component(kind int, v value) value {
	switch v := v.(type) {
	case *pair:
		e.contract()
		if kind == api.Fst {
			return v.kids[1].force()
		}
		return v.kids[2].force()
	default:
		known := &lazy{value: v}
		return &neutral{of: spine{head: api.Term{Kind: kind}, kids: []part{known.beside}}}
	}
}
