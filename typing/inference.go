package typing

import (
	"euclid/api"
	"euclid/conv"
	"euclid/formed"
	"euclid/level"
	"euclid/reduce"
	"euclid/signature"
)

// inference finds the types of terms. It fails with the first error.
type inference struct {
	env   []api.Decl
	rules [api.Kinds]rule
}

// rule finds the type of a term of a certain kind.
type rule func(in *inference, s scope, t api.Term) api.Term

func newInference(env []api.Decl) *inference {
	return &inference{env: env, rules: [api.Kinds]rule{
		api.Var:   (*inference).variable,
		api.Prop:  (*inference).prop,
		api.Sort:  (*inference).universe,
		api.Const: (*inference).constant,
		api.App:   (*inference).application,
		api.Lam:   (*inference).function,
		api.Pi:    (*inference).functionType,
		api.Sigma: (*inference).pairType,
		api.Pair:  (*inference).pair,
		api.Fst:   (*inference).first,
		api.Snd:   (*inference).second,
		api.Let:   (*inference).let,
		api.Meta:  (*inference).meta,
	}}
}

// whole returns the type of a term that comes from outside.
func (in *inference) whole(ctx []api.Term, t api.Term) api.Term {
	// Such a term may be too deep for the rules, or have more nodes than can be visited.
	if !formed.Fits(t) {
		fail(api.ErrLong)
	}
	return in.of(scope{outer: ctx}, t)
}

// of returns the type of a term.
func (in *inference) of(s scope, t api.Term) api.Term {
	if known, ok := s.find(t); ok {
		return known
	}
	return in.rules[t.Kind](in, s, t)
}

// sortOf returns the sort of a term.
func (in *inference) sortOf(s scope, t api.Term) api.Term { return in.sort(in.of(s, t)) }

// sort returns the sort that a type is.
func (in *inference) sort(t api.Term) api.Term {
	t = in.whnf(t)
	if t.Kind != api.Prop && t.Kind != api.Sort {
		fail(api.ErrSort)
	}
	return t
}

// check checks a term against a type, and returns its own type.
func (in *inference) check(s scope, t, want api.Term) api.Term {
	got := in.of(s, t)
	in.below(got, want)
	return got
}

// below checks that a type is a subtype of another one.
func (in *inference) below(got, want api.Term) {
	if !must(conv.Sub(in.env, got, want)) {
		fail(api.ErrType)
	}
}

func (in *inference) whnf(t api.Term) api.Term {
	switch t.Kind {
	case api.Prop, api.Sort, api.Pi, api.Sigma:
		// It would only be copied.
		return t
	}
	return must(reduce.Whnf(in.env, t))
}

// parts returns the two parts of a type whose weak head normal form is of the kind Pi or Sigma.
func (in *inference) parts(t api.Term, kind int, otherwise api.Errno) (api.Term, api.Term) {
	t = in.whnf(t)
	if t.Kind != kind {
		fail(otherwise)
	}
	return t.Kids[0], t.Kids[1]
}

func (in *inference) variable(s scope, t api.Term) api.Term {
	return s.lookup(t.Index)
}

func (in *inference) prop(scope, api.Term) api.Term { return sort(api.Level{}) }

func (in *inference) universe(_ scope, t api.Term) api.Term {
	return sort(must(level.Plus(t.Levels[0], 1)))
}

func (in *inference) constant(_ scope, t api.Term) api.Term {
	return must(signature.Type(in.env, t.Name, t.Levels))
}

func (in *inference) application(s scope, t api.Term) api.Term {
	domain, codomain := in.parts(in.of(s, t.Kids[0]), api.Pi, api.ErrFun)
	in.check(s, t.Kids[1], domain)
	return put(codomain, t.Kids[1])
}

func (in *inference) function(s scope, t api.Term) api.Term {
	in.sortOf(s, t.Kids[0])
	return node(api.Pi, t.Kids[0], in.of(s.with(t.Kids[0]), t.Kids[1]))
}

func (in *inference) functionType(s scope, t api.Term) api.Term {
	domain, codomain := in.sorts(s, t)
	if codomain.Kind == api.Prop {
		return codomain
	}
	return maximum(domain, codomain)
}

func (in *inference) pairType(s scope, t api.Term) api.Term {
	return maximum(in.sorts(s, t))
}

// sorts returns the sorts of both parts of a Pi or a Sigma.
func (in *inference) sorts(s scope, t api.Term) (api.Term, api.Term) {
	first := in.sortOf(s, t.Kids[0])
	return first, in.sortOf(s.with(t.Kids[0]), t.Kids[1])
}

func (in *inference) pair(s scope, t api.Term) api.Term {
	in.sortOf(s, t.Kids[0])
	first, second := in.parts(t.Kids[0], api.Sigma, api.ErrPair)
	in.check(s, t.Kids[1], first)
	got := in.of(s, t.Kids[2])
	in.below(got, put(second, t.Kids[1]))
	return t.Kids[0]
}

func (in *inference) first(s scope, t api.Term) api.Term {
	result, _ := in.parts(in.of(s, t.Kids[0]), api.Sigma, api.ErrPair)
	return result
}

func (in *inference) second(s scope, t api.Term) api.Term {
	_, result := in.parts(in.of(s, t.Kids[0]), api.Sigma, api.ErrPair)
	return put(result, node(api.Fst, t.Kids[0]))
}

func (in *inference) let(s scope, t api.Term) api.Term {
	value := t.Kids[1]
	in.sortOf(s, t.Kids[0])
	of := in.check(s, value, t.Kids[0])
	return in.of(s.knowing(value, of), put(t.Kids[2], value))
}

func (in *inference) meta(scope, api.Term) api.Term {
	panic(api.ErrMeta)
}

// put returns a term with values for its first variables. That is no light reduction if the term gets too great.
func put(t api.Term, values ...api.Term) api.Term {
	result, err := formed.Subst(t, values)
	if err != api.OK {
		fail(api.ErrSteps)
	}
	return result
}

// maximum returns the Sort of the maximum of the levels of two sorts, where Prop counts as 0.
func maximum(a, b api.Term) api.Term {
	return sort(must(level.Max(levelOf(a), levelOf(b))))
}

func levelOf(sort api.Term) api.Level {
	if sort.Kind == api.Prop {
		return api.Level{}
	}
	return sort.Levels[0]
}

func sort(l api.Level) api.Term {
	return api.Term{Kind: api.Sort, Levels: []api.Level{l}}
}

func node(kind int, kids ...api.Term) api.Term { return api.Term{Kind: kind, Kids: kids} }
