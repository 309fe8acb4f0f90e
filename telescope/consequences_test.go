package telescope_test

import (
	"math"
	"math/rand/v2"
	"slices"
	"testing"

	"euclid/api"
	"euclid/subst"
	"euclid/telescope"
	"euclid/term"
)

// maker makes random terms.
type maker struct{ *rand.Rand }

// term returns a term with free variables less than vars.
func (m maker) term(depth, vars int) api.Term {
	if depth <= 1 || m.IntN(5) == 0 {
		if vars > 0 && m.IntN(4) > 0 {
			return x(m.IntN(vars))
		}
		return list(nat, vec, f, prop)[m.IntN(4)]
	}
	switch kind := api.App + m.IntN(api.Let-api.App+1); kind {
	case api.Lam, api.Pi, api.Sigma:
		return tm(kind, m.term(depth-1, vars), m.term(depth-1, vars+1))
	case api.Let:
		return tm(kind, m.term(depth-1, vars), m.term(depth-1, vars), m.term(depth-1, vars+1))
	case api.Pair:
		return tm(kind, m.term(depth-1, vars), m.term(depth-1, vars), m.term(depth-1, vars))
	case api.Fst, api.Snd:
		return tm(kind, m.term(depth-1, vars))
	default:
		return app(m.term(depth-1, vars), m.term(depth-1, vars))
	}
}

// telescope returns a telescope of n elements in a context with vars variables.
func (m maker) telescope(n, vars int) []api.Term {
	var tele []api.Term
	for i := range n {
		tele = append(tele, m.term(1+m.IntN(4), vars+i))
	}
	return tele
}

func (m maker) terms(n, vars int) []api.Term {
	var terms []api.Term
	for range n {
		terms = append(terms, m.term(1+m.IntN(4), vars))
	}
	return terms
}

// P5.3
func TestSpineUndoesApply(t *testing.T) {
	m := maker{rand.New(rand.NewPCG(5, 1))}
	for range 3000 {
		head, args := m.term(1+m.IntN(5), 4), m.terms(m.IntN(6), 4)
		applied := telescope.Apply(head, args...)
		gotHead, gotArgs := telescope.Spine(applied)
		if gotHead.Kind == api.App {
			t.Fatalf("the head of %s is an application", show(applied))
		}
		want(t, "Apply of what Spine returns", telescope.Apply(gotHead, gotArgs...), applied)
		if head.Kind != api.App {
			want(t, "the head", gotHead, head)
			wantList(t, "the arguments", gotArgs, args)
		}
	}
}

// P5.3
func TestOpenUndoesPis(t *testing.T) {
	m := maker{rand.New(rand.NewPCG(5, 2))}
	for range 3000 {
		n := m.IntN(6)
		tele, result := m.telescope(n, 3), m.term(1+m.IntN(4), 3+n)
		all := telescope.Pis(tele, result)
		gotTele, gotResult, err := telescope.Open(all, n)
		wantErr(t, "Open", err, api.OK)
		wantList(t, "the telescope of "+show(all), gotTele, tele)
		want(t, "the result of "+show(all), gotResult, result)

		allTele, allResult := telescope.All(all)
		if allResult.Kind == api.Pi || len(allTele) < n {
			t.Fatalf("All returns %d types for %s", len(allTele), show(all))
		}
		want(t, "Pis of what All returns", telescope.Pis(allTele, allResult), all)
		_, _, err = telescope.Open(all, len(allTele)+1)
		wantErr(t, "Open of more types than there are", err, api.ErrFun)
	}
}

// P5.3
func TestLookupHasNoInnerVariables(t *testing.T) {
	m := maker{rand.New(rand.NewPCG(5, 3))}
	for range 2000 {
		ctx := m.telescope(1+m.IntN(6), 0)
		for i := range ctx {
			a, err := telescope.Lookup(ctx, i)
			wantErr(t, "Lookup", err, api.OK)
			if free := term.Free(a); len(free) > 0 && (free[0] <= i || free[len(free)-1] >= len(ctx)) {
				t.Fatalf("the type of variable %d of %s has the variables %v", i, show(ctx), free)
			}
			back, err := subst.Shift(a, -i-1, 0)
			wantErr(t, "Shift", err, api.OK)
			want(t, "the type, shifted back", back, ctx[len(ctx)-1-i])
		}
	}
}

// P5.3
func TestInstantiateOneByOne(t *testing.T) {
	m := maker{rand.New(rand.NewPCG(5, 4))}
	for range 3000 {
		n := m.IntN(5)
		tele, result, args := m.telescope(n, 3), m.term(1+m.IntN(4), 3+n), m.terms(n, 3)
		rest := telescope.Pis(tele, result)
		for _, arg := range args {
			_, inner, err := telescope.Open(rest, 1)
			wantErr(t, "Open", err, api.OK)
			rest, err = subst.Subst(inner, list(arg))
			wantErr(t, "Subst", err, api.OK)
		}
		got, err := telescope.Instantiate(tele, result, args)
		wantErr(t, "Instantiate", err, api.OK)
		want(t, "Instantiate of "+show(result), got, rest)
	}
}

// P5.3
func TestVarsInTheirPlace(t *testing.T) {
	m := maker{rand.New(rand.NewPCG(5, 5))}
	for range 2000 {
		n := m.IntN(5)
		a, tele := m.term(1+m.IntN(5), n), m.telescope(n, 0)
		got, err := telescope.Instantiate(tele, a, telescope.Vars(n, 0))
		wantErr(t, "Instantiate", err, api.OK)
		want(t, "a term with its own variables", got, a)

		// In a greater context, in which the variables are those of the telescope again.
		a = m.term(1+m.IntN(5), n+3)
		moved, err := subst.Shift(a, n, n)
		wantErr(t, "Shift", err, api.OK)
		got, err = telescope.Instantiate(tele, moved, telescope.Vars(n, 0))
		wantErr(t, "Instantiate", err, api.OK)
		want(t, "a term with its own variables", got, a)
	}
}

// P5.3: an arrow is a function type whose result does not depend on its argument.
func TestArrowIgnoresItsArgument(t *testing.T) {
	m := maker{rand.New(rand.NewPCG(5, 6))}
	for range 2000 {
		a, b := m.term(1+m.IntN(4), 3), m.term(1+m.IntN(4), 3)
		tele, result, err := telescope.Open(telescope.Arrow(a, b), 1)
		wantErr(t, "Open", err, api.OK)
		wantList(t, "the argument", tele, list(a))
		got, err := telescope.Instantiate(tele, result, m.terms(1, 3))
		wantErr(t, "Instantiate", err, api.OK)
		want(t, "the result", got, b)
	}
}

// addresses calls f with the addresses of all elements of the lists in a list of terms, also in their spare capacity.
func addresses(terms []api.Term, f func(address any)) {
	terms = terms[:cap(terms)]
	for i := range terms {
		f(&terms[i])
		levels := terms[i].Levels[:cap(terms[i].Levels)]
		for j := range levels {
			f(&levels[j])
			vars := levels[j].Vars[:cap(levels[j].Vars)]
			for k := range vars {
				f(&vars[k])
			}
		}
		addresses(terms[i].Kids, f)
	}
}

// P5.1, P5.2: results share no memory with arguments or within themselves, and arguments stay as they are.
func TestMemory(t *testing.T) {
	value := func() api.Term {
		vec := func() api.Term { return con("Vec", lv(2, api.LevelVar{Index: -1})) }
		return app(app(vec(), vec()), lam(vec(), app(x(0), vec())))
	}
	values := func() []api.Term { return append(make([]api.Term, 0, 8), value(), value()) }
	more := func(terms []api.Term, t api.Term) []api.Term { return append(slices.Clone(terms), t) }
	for name, call := range map[string]func(t api.Term, l []api.Term) []api.Term{
		"Apply":   func(t api.Term, l []api.Term) []api.Term { return list(telescope.Apply(t, l...)) },
		"Apply 0": func(t api.Term, l []api.Term) []api.Term { return list(telescope.Apply(t)) },
		"Spine": func(t api.Term, l []api.Term) []api.Term {
			head, args := telescope.Spine(t)
			return more(args, head)
		},
		"Pis":  func(t api.Term, l []api.Term) []api.Term { return list(telescope.Pis(l, t)) },
		"Lams": func(t api.Term, l []api.Term) []api.Term { return list(telescope.Lams(l, t)) },
		"Open": func(t api.Term, l []api.Term) []api.Term {
			tele, result, _ := telescope.Open(pi(t, t), 1)
			return more(tele, result)
		},
		"Open 0": func(t api.Term, l []api.Term) []api.Term {
			_, result, _ := telescope.Open(t, 0)
			return list(result)
		},
		"All": func(t api.Term, l []api.Term) []api.Term {
			tele, result := telescope.All(pi(t, pi(t, t)))
			return more(tele, result)
		},
		"Vars": func(t api.Term, l []api.Term) []api.Term { return telescope.Vars(3, 0) },
		"Lookup": func(t api.Term, l []api.Term) []api.Term {
			result, _ := telescope.Lookup(l, 1)
			return list(result)
		},
		"Arrow": func(t api.Term, l []api.Term) []api.Term { return list(telescope.Arrow(t, t)) },
		"Instantiate": func(t api.Term, l []api.Term) []api.Term {
			result, _ := telescope.Instantiate(l, app(x(0), app(x(1), app(x(0), t))), l)
			return list(result)
		},
	} {
		a, l := value(), values()
		result, again := call(a, l), call(a, l)
		wantList(t, name+" called again", again, result)
		want(t, name+" changes its argument", a, value())
		wantList(t, name+" changes a list", l, values())
		wantList(t, name+" changes spare capacity", l[:8][2:], make([]api.Term, 6))
		seen := map[any]bool{}
		for _, terms := range [][]api.Term{list(a), l, result, again} {
			addresses(terms, func(address any) {
				if seen[address] {
					t.Errorf("%s shares memory", name)
				}
				seen[address] = true
			})
		}
	}
}

// The functions return for terms that they need not accept.
func TestOtherArguments(t *testing.T) {
	deep, double, functions := nat, nat, nat
	for range 1 << 18 {
		deep, functions = app(deep, nat), pi(nat, functions)
	}
	for range 60 {
		double = app(double, double)
	}
	odd := list(deep, double, functions, x(-1), x(math.MaxInt), x(math.MinInt), tm(api.App), tm(api.App, nat), tm(api.Pi), tm(api.Pi, nat, nat, nat),
		tm(-1, nat), tm(99), app(tm(api.App), tm(api.App)), pi(nat, tm(api.Pi)), con("", lv(-1, api.LevelVar{Index: math.MinInt})))
	for _, a := range odd {
		for _, b := range odd {
			telescope.Apply(a, b, a)
			telescope.Pis(list(a, b), a)
			telescope.Lams(list(a, b), a)
			telescope.Arrow(a, b)
			telescope.Lookup(list(a, b), 1)
			telescope.Instantiate(list(b), a, list(b))
		}
		telescope.Spine(a)
		telescope.All(a)
		for _, n := range []int{math.MinInt, 0, 1, 2, math.MaxInt} {
			telescope.Open(a, n)
		}
	}
	want(t, "Apply is of no use any more", telescope.Apply(f, nat), app(f, nat))
}
