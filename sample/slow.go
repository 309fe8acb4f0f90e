package sample

import (
	"slices"

	"euclid/api"
	"euclid/signature"
	"euclid/spines"
	"euclid/subst"
	"euclid/telescope"
	"euclid/term"
)

// Slow reduces terms by the words of the document. It ends by a panic, for which Lightly looks, if a reduction is not light.
type Slow struct {
	Env          []api.Decl
	Contractions int
}

// heavy is the panic of a reduction that is not light.
type heavy struct{}

// Lightly calls a function that reduces, and reports whether all its reductions together are light.
func Lightly(env []api.Decl, call func(s *Slow)) (ok bool) {
	defer func() {
		if r := recover(); r != nil {
			if _, isHeavy := r.(heavy); !isHeavy {
				panic(r)
			}
		}
	}()
	call(&Slow{Env: env})
	return true
}

func (s *Slow) count(t api.Term) api.Term {
	s.Contractions++
	if s.Contractions > api.MaxLight || term.Size(t) > api.MaxNodes || term.Depth(t) > api.MaxDepth {
		panic(heavy{})
	}
	return t
}

// Put substitutes, or gives up.
func Put(t api.Term, values ...api.Term) api.Term {
	result, err := subst.Subst(t, values)
	if err != api.OK {
		panic(heavy{})
	}
	return result
}

// constant looks a constant up, and reports whether it is usable and of this kind.
func (s *Slow) constant(t api.Term, kind int) (api.Entry, bool) {
	if t.Kind != api.Const {
		return api.Entry{}, false
	}
	e, err := signature.Find(s.Env, t.Name)
	return e, err == api.OK && e.Kind == kind && len(t.Levels) == e.Params
}

// Constructor returns the constructor and the fields of a constructor term, and whether a term is one.
func (s *Slow) Constructor(t api.Term) (api.Entry, []api.Term, bool) {
	head, args := spines.Of(t)
	if head.Kind != api.Const {
		return api.Entry{}, nil, false
	}
	e, err := signature.Find(s.Env, head.Name)
	domains, _ := telescope.All(e.Type)
	if err != api.OK || e.Kind != api.EntryCtor || len(args) != len(domains) {
		return api.Entry{}, nil, false
	}
	return e, args[s.Env[e.Decl].Fixed:], true
}

// ScrutineeAt returns the number of the scrutinee of a recursor with enough arguments, or -1.
func (s *Slow) ScrutineeAt(head api.Term, args []api.Term) int {
	e, ok := s.constant(head, api.EntryRec)
	if !ok {
		return -1
	}
	d := s.Env[e.Decl]
	domains, _ := telescope.All(d.Type)
	p, k := d.Fixed, len(d.Ctors)
	n := len(domains) - p
	if len(args) < p+k+n+2 {
		return -1
	}
	return p + k + n + 1
}

// Function returns a usable function by cases, and whether a constant is one.
func (s *Slow) Function(head api.Term) (api.Fun, bool) {
	e, ok := s.constant(head, api.EntryFun)
	if !ok {
		return api.Fun{}, false
	}
	return s.Env[e.Decl].Funs[e.Item], true
}

// Contraction returns the contraction of a term, if there is one without any reduction of scrutinees.
func (s *Slow) Contraction(t api.Term) (api.Term, bool) {
	head, args := spines.Of(t)
	switch {
	case head.Kind == api.Lam && len(args) > 0:
		return spines.Apply(Put(head.Kids[1], args[0]), args[1:]...), true
	case head.Kind == api.Let:
		return spines.Apply(Put(head.Kids[2], head.Kids[1]), args...), true
	case (head.Kind == api.Fst || head.Kind == api.Snd) && head.Kids[0].Kind == api.Pair:
		return spines.Apply(head.Kids[0].Kids[head.Kind-api.Fst+1], args...), true
	}
	if e, ok := s.constant(head, api.EntryDef); ok {
		value, err := subst.Levels(s.Env[e.Decl].Value, head.Levels)
		return spines.Apply(value, args...), err == api.OK
	}
	if at := s.ScrutineeAt(head, args); at >= 0 {
		e, fields, ok := s.Constructor(args[at])
		d, _, _ := signature.Family(s.Env, head.Name)
		if !ok || s.Env[e.Decl].Name != d.Name {
			return api.Term{}, false
		}
		rule, err := subst.Levels(d.Rec.Rules[e.Item], head.Levels)
		ahead := args[:d.Fixed+1+len(d.Ctors)]
		return spines.Apply(rule, slices.Concat(ahead, fields, args[at+1:])...), err == api.OK
	}
	if f, ok := s.Function(head); ok && len(args) >= f.Arity {
		return s.match(f, head, args, func(t api.Term) api.Term { return t })
	}
	return api.Term{}, false
}

// match contracts a function by cases, with scrutinees that are seen as see returns them.
func (s *Slow) match(f api.Fun, head api.Term, args []api.Term, see func(api.Term) api.Term) (api.Term, bool) {
	body, values, ok := s.Reach(f.Tree, args[:f.Arity], see)
	if !ok {
		return api.Term{}, false
	}
	body, err := subst.Levels(body, head.Levels)
	if err != api.OK {
		return api.Term{}, false
	}
	return spines.Apply(Put(body, values...), args[f.Arity:]...), true
}

// Reach goes down a case tree with scrutinees that are seen as see returns them. It returns the body of the leaf and the values of its variables, the first one first; if no leaf is reached, the last value is the last scrutinee as it was seen.
func (s *Slow) Reach(tree api.Tree, vars []api.Term, see func(api.Term) api.Term) (api.Term, []api.Term, bool) {
	if tree.Kind == api.TreeLeaf {
		values := slices.Clone(vars)
		slices.Reverse(values)
		return tree.Body, values, true
	}
	seen := see(vars[tree.Var])
	_, fields, ok := s.Constructor(seen)
	head, _ := spines.Of(seen)
	for _, b := range tree.Branches {
		if ok && b.Ctor == head.Name {
			if b.Absurd {
				break
			}
			return s.Reach(b.Tree, slices.Concat(vars, fields), see)
		}
	}
	return api.Term{}, append(slices.Clone(vars), seen), false
}

// Whnf returns the weak head normal form of a term.
func (s *Slow) Whnf(t api.Term) api.Term {
	head, args := spines.Of(t)
	_, isDefinition := s.constant(head, api.EntryDef)
	if head.Kind == api.Lam || head.Kind == api.Let || isDefinition {
		if next, ok := s.Contraction(t); ok {
			return s.Whnf(s.count(next))
		}
		return t
	}
	if head.Kind == api.Fst || head.Kind == api.Snd {
		t = spines.Apply(Node(head.Kind, s.Whnf(head.Kids[0])), args...)
		if next, ok := s.Contraction(t); ok {
			return s.Whnf(s.count(next))
		}
		return t
	}
	if at := s.ScrutineeAt(head, args); at >= 0 {
		args[at] = s.Whnf(args[at])
		if next, ok := s.Contraction(spines.Apply(head, args...)); ok {
			return s.Whnf(s.count(next))
		}
	}
	if f, ok := s.Function(head); ok && len(args) >= f.Arity {
		if next, ok := s.match(f, head, args, s.Whnf); ok {
			return s.Whnf(s.count(next))
		}
	}
	return t
}
