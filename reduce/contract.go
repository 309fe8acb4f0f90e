package reduce

import (
	"slices"

	"euclid/api"
	"euclid/constants"
	"euclid/signature"
	"euclid/spines"
	"euclid/subst"
)

// attempt attempts to contract a term.
func (r *reduction) attempt(t api.Term) outcome {
	s := spineOf(t)
	switch s.head.Kind {
	case api.Lam:
		if len(s.args) > 0 {
			return done(spines.Apply(r.put(s.head.Kids[1], s.args[0]), s.args[1:]...))
		}
	case api.Let:
		return done(spines.Apply(r.put(s.head.Kids[2], s.head.Kids[1]), s.args...))
	case api.Fst, api.Snd:
		return projection(s)
	case api.Const:
		c := r.constants.Find(s.head.Name)
		if rule := r.rules[c.Kind]; rule != nil && c.Usable(s.head.Levels) {
			return rule(r, s, c)
		}
	}
	return outcome{}
}

func projection(s spine) outcome {
	component := 1
	if s.head.Kind == api.Snd {
		component = 2
	}
	put := func(p api.Term) api.Term {
		return spines.Apply(api.Term{Kind: s.head.Kind, Kids: []api.Term{p}}, s.args...)
	}
	return outcome{look: &look{
		scrutinee: s.head.Kids[0],
		resume: func(seen api.Term) outcome {
			if seen.Kind != api.Pair {
				return outcome{}
			}
			return done(spines.Apply(seen.Kids[component], s.args...))
		},
		stuck: put,
		put:   put,
	}}
}

// delta unfolds a definition.
func (r *reduction) delta(s spine, _ constants.Constant) outcome {
	value, ok := signature.Value(r.env, s.head.Name, s.head.Levels)
	if !ok {
		return outcome{}
	}
	return done(spines.Apply(value, s.args...))
}

// iota applies the rule of a recursor.
func (r *reduction) iota(s spine, c constants.Constant) outcome {
	d := &r.env[c.Decl]
	first, at := r.constants.Scrutinee(c)
	if len(s.args) <= at {
		return outcome{}
	}
	return outcome{look: &look{
		scrutinee: s.args[at],
		resume: func(seen api.Term) outcome {
			ctor, fields, ok := r.constructor(seen)
			if !ok || ctor.Decl != c.Decl {
				return outcome{}
			}
			rule, err := subst.Levels(d.Rec.Rules[ctor.Item], s.head.Levels)
			if err != api.OK {
				return outcome{}
			}
			return done(spines.Apply(rule, slices.Concat(s.args[:first], fields, s.args[at+1:])...))
		},
		stuck: func(api.Term) api.Term { return s.term() },
		put:   func(other api.Term) api.Term { return s.with(at, other).term() },
	}}
}

// constructor returns the constructor and the fields of a constructor term, and whether a term is one.
func (r *reduction) constructor(t api.Term) (constants.Constant, []api.Term, bool) {
	s := spineOf(t)
	c, first, ok := r.constants.Constructor(s.head, len(s.args))
	if !ok {
		return constants.Constant{}, nil, false
	}
	return c, s.args[first:], true
}

// match goes down the case tree of a function.
func (r *reduction) match(s spine, c constants.Constant) outcome {
	f := &r.env[c.Decl].Funs[c.Item]
	if len(s.args) < f.Arity {
		return outcome{}
	}
	d := descent{reduction: r, whole: s, vars: arguments(s.args[:f.Arity]), leaf: func(body api.Term, values []api.Term) outcome {
		body, err := subst.Levels(body, s.head.Levels)
		if err != api.OK {
			return outcome{}
		}
		return done(spines.Apply(r.put(body, values...), s.args[f.Arity:]...))
	}}
	return d.down(f.Tree)
}

// selection goes down a case tree; it returns the body of a leaf, and whether one is reached.
func (r *reduction) selection(tree api.Tree, args []api.Term) (api.Term, bool) {
	d := descent{reduction: r, vars: arguments(args), leaf: func(body api.Term, values []api.Term) outcome {
		return done(r.put(body, values...))
	}}
	o := d.down(tree)
	for o.look != nil {
		seen, _ := r.whnf(o.look.scrutinee)
		o = o.look.resume(seen)
	}
	return o.result, o.done
}
