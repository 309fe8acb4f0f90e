package conv

import (
	"euclid/api"
	"euclid/level"
	"euclid/term"
)

// order is the relation 'is below': among short normal forms, or among terms that are brought to weak head normal form step by step.
type order struct {
	reduced   func(t api.Term) api.Term
	equal     func(a, b api.Term) bool
	otherwise func(a, b api.Term) bool // for terms for whose kinds there is no rule
}

// rule says whether a term may be below another one of certain kinds, and what else has to hold then.
type rule func(a, b api.Term) (bool, []condition)

// condition is the condition that a term is below another one, or equal to it.
type condition struct {
	a, b  api.Term
	equal bool
}

// holds reports whether a term is below another one.
func (o order) holds(a, b api.Term) bool {
	rules := [api.Kinds][api.Kinds]rule{
		api.Prop:  {api.Prop: always, api.Sort: always},
		api.Sort:  {api.Sort: levels},
		api.Pi:    {api.Pi: functionTypes},
		api.Sigma: {api.Sigma: pairTypes},
	}
	// No recursion: a normal form may be deep.
	open := []condition{{a: a, b: b}}
	for len(open) > 0 {
		next := open[len(open)-1]
		open = open[:len(open)-1]
		if next.equal {
			if !o.equal(next.a, next.b) {
				return false
			}
			continue
		}
		a, b := o.reduced(next.a), o.reduced(next.b)
		r := rules[a.Kind][b.Kind]
		if r == nil {
			if !o.otherwise(a, b) {
				return false
			}
			continue
		}
		ok, conditions := r(a, b)
		if !ok {
			return false
		}
		open = append(open, conditions...)
	}
	return true
}

func always(_, _ api.Term) (bool, []condition) { return true, nil }

func levels(a, b api.Term) (bool, []condition) {
	return level.Leq(a.Levels[0], b.Levels[0]), nil
}

func functionTypes(a, b api.Term) (bool, []condition) {
	return true, []condition{{a: a.Kids[1], b: b.Kids[1]}, {a: a.Kids[0], b: b.Kids[0], equal: true}}
}

func pairTypes(a, b api.Term) (bool, []condition) {
	return true, []condition{{a: a.Kids[1], b: b.Kids[1]}, {a: a.Kids[0], b: b.Kids[0]}}
}

// subtype reports whether a term is a subtype of another one.
func (c *comparison) subtype(a, b api.Term) bool {
	steps := order{reduced: c.reducedIfLight, equal: c.convertible, otherwise: c.below}
	return steps.holds(a, b)
}

// reducedIfLight returns the weak head normal form of a term, or the term itself if too much would have to be reduced.
func (c *comparison) reducedIfLight(t api.Term) api.Term {
	t, _ = c.reduced(t)
	return t
}

// below reports whether a term is a subtype of another one, where their weak head normal forms do not tell.
func (c *comparison) below(a, b api.Term) bool {
	switch c.compare(a, b) {
	case same:
		return true
	case different:
		// A Lam or a pair may be the eta expansion of a type.
		if c.isRigid(spineOf(a)) && c.isRigid(spineOf(b)) {
			return false
		}
	}
	forms := order{reduced: unchanged, equal: term.Same, otherwise: term.Same}
	return forms.holds(c.short(a), c.short(b))
}

func unchanged(t api.Term) api.Term { return t }
