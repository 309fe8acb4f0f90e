package nbe

import (
	"slices"

	"euclid/api"
	"euclid/constants"
	"euclid/subst"
)

// constant evaluates a constant.
func (e *evaluation) constant(t *api.Term) value {
	n := &neutral{of: spine{head: *t}}
	c := e.constants.Find(t.Name)
	if !c.Usable(t.Levels) {
		return n
	}
	switch c.Kind {
	case api.EntryDef:
		if value, ok := withLevels(&e.env[c.Decl].Value, t); ok {
			e.contract()
			return e.value(value, nil)
		}
	case api.EntryRec:
		n.rule = e.iota(t, c)
	case api.EntryFun:
		n.rule = e.match(t, &e.env[c.Decl].Funs[c.Item])
	}
	return n
}

// withLevels returns a term of the declaration of a constant with the constant's levels, and true; or false if these are too great.
func withLevels(t, constant *api.Term) (*api.Term, bool) {
	if len(constant.Levels) == 0 {
		return t, true
	}
	result, err := subst.Levels(*t, constant.Levels)
	return &result, err == api.OK
}

// iota returns the rule of a recursor.
func (e *evaluation) iota(rec *api.Term, c constants.Constant) rule {
	ahead, at := e.constants.Scrutinee(c)
	return rule{at + 1, func(args []*lazy) (value, bool) {
		ctor, fields, ok := e.constructor(args[at].force())
		if !ok || ctor.Decl != c.Decl {
			return nil, false
		}
		t, ok := withLevels(&e.env[c.Decl].Rec.Rules[ctor.Item], rec)
		if !ok {
			return nil, false
		}
		e.contract()
		return applied(e, e.value(t, nil), slices.Concat(args[:ahead], fields)), true
	}}
}

// match returns the rule of a function by cases.
func (e *evaluation) match(head *api.Term, f *api.Fun) rule {
	return rule{f.Arity, func(args []*lazy) (value, bool) {
		vars, tree := slices.Clone(args), &f.Tree
		for tree.Kind == api.TreeSplit {
			seen := vars[tree.Var].force()
			_, fields, ok := e.constructor(seen)
			if !ok {
				return nil, false
			}
			branch, ok := constants.Branch(tree, seen.spine().head.Name)
			if !ok {
				return nil, false
			}
			vars, tree = append(vars, fields...), &branch.Tree
		}
		leaf, ok := withLevels(&tree.Body, head)
		if !ok {
			return nil, false
		}
		var s *scope
		for _, v := range vars {
			s = s.with(v)
		}
		e.contract()
		return e.value(leaf, s), true
	}}
}

// constructor returns the constructor and the fields of a constructor term, and whether a value is one.
func (e *evaluation) constructor(v value) (constants.Constant, []*lazy, bool) {
	s := v.spine()
	c, first, ok := e.constants.Constructor(s.head, len(s.args))
	if !ok {
		return constants.Constant{}, nil, false
	}
	return c, s.args[first:], true
}
