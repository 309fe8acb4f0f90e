package conv

import (
	"euclid/api"
	"euclid/constants"
	"euclid/reduce"
	"euclid/spines"
	"euclid/term"
)

// The limits of what is compared step by step. What exceeds them is compared by short normal forms.
const (
	maxNested = 10 * api.MaxDepth           // comparisons in comparisons
	maxWork   = api.MaxNodes * api.MaxLight // nodes that are reduced
)

// comparison compares terms: step by step, by weak head normal forms, and where this does not tell, by short normal forms. It gives up if the latter are not light.
type comparison struct {
	env       []api.Decl
	constants *constants.Table
	nested    int
	work      int
	rules     [api.Kinds]func(a, b spine) verdict // for weak head normal forms whose heads both have this kind
}

// verdict says how the short normal forms of two terms compare.
type verdict int

const (
	unclear   verdict = iota // they have to be computed
	same                     // they are equal
	different                // they are not, and neither is an application whose head is a Lam
)

// spine is a term as its head and its arguments.
type spine struct {
	head api.Term
	args []api.Term
}

// newComparison returns a comparison of two terms, unless they are too great.
func newComparison(env []api.Decl, a, b api.Term) *comparison {
	if isGreat(a) || isGreat(b) {
		giveUp()
	}
	c := &comparison{env: env, constants: constants.New(env)}
	c.rules = [api.Kinds]func(a, b spine) verdict{
		api.Var:   c.rigid,
		api.Prop:  c.rigid,
		api.Sort:  c.rigid,
		api.Const: c.sameConstant,
		api.Lam:   c.functions,
		api.Pi:    c.rigid,
		api.Sigma: c.rigid,
		api.Pair:  c.pairs,
		api.Fst:   c.rigid,
		api.Snd:   c.rigid,
		api.Meta:  c.rigid,
	}
	return c
}

// convertible reports whether two terms are convertible.
func (c *comparison) convertible(a, b api.Term) bool {
	switch c.compare(a, b) {
	case same:
		return true
	case different:
		return false
	}
	return term.Same(c.short(a), c.short(b))
}

// compare compares two terms step by step.
func (c *comparison) compare(a, b api.Term) verdict {
	if term.Same(a, b) {
		return same
	}
	a, okA := c.reduced(a)
	b, okB := c.reduced(b)
	if !okA || !okB || c.nested == maxNested {
		return unclear
	}
	c.nested++
	result := c.compareSpines(spineOf(a), spineOf(b))
	c.nested--
	return result
}

// reduced returns the weak head normal form of a term and true; or the term itself and false if too much would have to be reduced.
func (c *comparison) reduced(t api.Term) (api.Term, bool) {
	if !c.mayReduce(spineOf(t)) {
		return t, true
	}
	c.work += term.Size(t)
	if c.work > maxWork {
		return t, false
	}
	whnf, err := reduce.Whnf(c.env, t)
	if err != api.OK {
		return t, false
	}
	if term.Same(t, whnf) {
		// The copy may be great, and there may be many of them.
		return t, true
	}
	// A reduction to another term is more work: there are at most MaxLight of them.
	c.work += api.MaxNodes
	return whnf, true
}

// mayReduce reports whether a term is not certainly its own weak head normal form.
func (c *comparison) mayReduce(s spine) bool {
	switch s.head.Kind {
	case api.Let, api.Fst, api.Snd:
		return true
	case api.Lam:
		return len(s.args) > 0
	case api.Const:
		kind := c.constants.Find(s.head.Name).Kind
		return kind == api.EntryDef || kind == api.EntryRec || kind == api.EntryFun
	}
	return false
}

// compareSpines compares two weak head normal forms.
func (c *comparison) compareSpines(a, b spine) verdict {
	if a.head.Kind == b.head.Kind {
		return c.rules[a.head.Kind](a, b)
	}
	if c.isRigid(a) && c.isRigid(b) {
		return different
	}
	return unclear
}

// isRigid reports whether the short normal form of a weak head normal form has the same head, with the short normal forms of its parts. Functions and pairs, which may be eta expansions of something else, are not rigid, nor is what is expanded.
func (c *comparison) isRigid(s spine) bool {
	return s.head.Kind != api.Lam && s.head.Kind != api.Pair && !c.isPartial(s)
}

// isPartial reports whether a term is a function by cases with too few arguments.
func (c *comparison) isPartial(s spine) bool {
	f, ok := c.constants.Function(s.head)
	return ok && len(s.args) < f.Arity
}

// rigid compares rigid terms.
func (c *comparison) rigid(a, b spine) verdict {
	kidsA, kidsB := a.head.Kids, b.head.Kids
	a.head.Kids, b.head.Kids = nil, nil
	if !term.Same(a.head, b.head) || len(a.args) != len(b.args) || !c.allConvertible(kidsA, kidsB) || !c.allConvertible(a.args, b.args) {
		return different
	}
	return same
}

// allConvertible reports whether the terms of two lists of the same length are convertible.
func (c *comparison) allConvertible(a, b []api.Term) bool {
	for i := range a {
		if !c.convertible(a[i], b[i]) {
			return false
		}
	}
	return true
}

func (c *comparison) sameConstant(a, b spine) verdict {
	if c.isPartial(a) || c.isPartial(b) {
		return unclear
	}
	return c.rigid(a, b)
}

// functions compares Lams. If their bodies are different, so are they, also if one or both are eta expansions: what is applied there to the variable is no Lam.
func (c *comparison) functions(a, b spine) verdict {
	return c.compare(a.head.Kids[1], b.head.Kids[1])
}

func (c *comparison) pairs(a, b spine) verdict {
	applied := len(a.args) > 0 || len(b.args) > 0
	if applied || c.compare(a.head.Kids[1], b.head.Kids[1]) != same || c.compare(a.head.Kids[2], b.head.Kids[2]) != same {
		return unclear
	}
	return same
}

func spineOf(t api.Term) spine {
	head, args := spines.Of(t)
	return spine{head, args}
}
