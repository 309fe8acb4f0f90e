package sample

import (
	"euclid/api"
	"euclid/level"
	"euclid/spines"
	"euclid/subst"
	"euclid/term"
)

// Norm returns the normal form of a term.
func (s *Slow) Norm(t api.Term) api.Term { return inParts(s.Whnf(t), s.Norm) }

// inParts returns a term in which the kids of the head and the arguments are changed.
func inParts(t api.Term, change func(t api.Term) api.Term) api.Term {
	head, args := spines.Of(t)
	return spines.Apply(inKids(head, change), inTerms(args, change)...)
}

func inKids(t api.Term, change func(t api.Term) api.Term) api.Term {
	t.Kids = inTerms(t.Kids, change)
	return t
}

func inTerms(terms []api.Term, change func(t api.Term) api.Term) []api.Term {
	var changed []api.Term
	for _, t := range terms {
		changed = append(changed, change(t))
	}
	return changed
}

// Expand returns the expansion of a normal form (layer 10).
func (s *Slow) Expand(t api.Term) api.Term {
	head, args := spines.Of(t)
	f, ok := s.Function(head)
	if !ok || len(args) >= f.Arity {
		return inParts(t, s.Expand)
	}
	shifted, err := subst.Shift(t, 1, 0)
	if err != api.OK {
		panic(heavy{})
	}
	return Node(api.Lam, Node(api.Prop), s.Expand(s.Norm(spines.Apply(shifted, Var(0)))))
}

// Short returns the short form of a term (layer 9).
func Short(t api.Term) api.Term {
	t = inKids(t, Short)
	switch t.Kind {
	case api.Lam:
		t.Kids[0] = Node(api.Prop)
		body := t.Kids[1]
		if body.Kind == api.App && term.Same(body.Kids[1], Var(0)) {
			if f, err := subst.Shift(body.Kids[0], -1, 0); err == api.OK {
				return f
			}
		}
	case api.Pair:
		t.Kids[0] = Node(api.Prop)
		if t.Kids[1].Kind == api.Fst && t.Kids[2].Kind == api.Snd && term.Same(t.Kids[1].Kids[0], t.Kids[2].Kids[0]) {
			return t.Kids[1].Kids[0]
		}
	}
	return t
}

// ShortNorm returns the short normal form of a term (layer 10).
func (s *Slow) ShortNorm(t api.Term) api.Term { return Short(s.Expand(s.Norm(t))) }

// Below reports whether a short normal form is below another one (layer 10).
func Below(a, b api.Term) bool {
	switch {
	case a.Kind == api.Prop && (b.Kind == api.Prop || b.Kind == api.Sort):
		return true
	case a.Kind == api.Sort && b.Kind == api.Sort:
		return level.Leq(a.Levels[0], b.Levels[0])
	case a.Kind == api.Pi && b.Kind == api.Pi:
		return term.Same(a.Kids[0], b.Kids[0]) && Below(a.Kids[1], b.Kids[1])
	case a.Kind == api.Sigma && b.Kind == api.Sigma:
		return Below(a.Kids[0], b.Kids[0]) && Below(a.Kids[1], b.Kids[1])
	}
	return term.Same(a, b)
}
