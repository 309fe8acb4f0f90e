package nbe_test

import (
	"fmt"
	"math"
	"slices"
	"testing"

	"euclid/api"
	"euclid/nbe"
	"euclid/sample"
	"euclid/subst"
	"euclid/telescope"
	"euclid/term"
)

// wantLight checks the result of a normalization that is light.
func wantLight(t *testing.T, what string, env []api.Decl, from, want api.Term) {
	t.Helper()
	got, err := nbe.Norm(env, from)
	if err != api.OK || !term.Same(got, want) {
		t.Errorf("Norm, %s: got %.100s, error %d", what, show(got), err)
	}
}

// wantLightOrSteps checks that a normalization that is not light has no wrong result.
func wantLightOrSteps(t *testing.T, what string, env []api.Decl, from, want api.Term) {
	t.Helper()
	got, err := nbe.Norm(env, from)
	if err == api.ErrSteps && term.Same(got, api.Term{}) {
		return
	}
	if err != api.OK || !term.Same(got, want) {
		t.Errorf("Norm, %s: got %.100s, error %d", what, show(got), err)
	}
}

// P9.1: up to MaxLight contractions are light, those of all parts together.
func TestManyContractions(t *testing.T) {
	grow := func(n int) api.Term { return ap(con("grow"), numeral(n)) } // 10 n + 1 contractions
	for n := range 100 {
		wantLight(t, fmt.Sprint("grow ", n), env, grow(n), numeral(0))
	}
	parts := tm(api.Pair, grow(19), tm(api.Lam, grow(29), grow(29)), ap(x(0), grow(20)))
	want := tm(api.Pair, numeral(0), tm(api.Lam, numeral(0), numeral(0)), ap(x(0), numeral(0)))
	for n := range 60 {
		what := fmt.Sprint(974+n, " contractions")
		from := sample.Nest(n, the("(lam prop #0)"), parts)
		if 974+n <= api.MaxLight {
			wantLight(t, what, env, from, want)
		} else {
			wantLightOrSteps(t, what, env, from, want)
		}
	}
	// An argument that is thrown away is not normalized, and one that is used several times is, each time.
	copies := the("(lam prop {cons #0 #0 #0 #0 #0 #0 #0 #0 #0})")
	wantLight(t, "9 copies", env, ap(copies, grow(11)), the("{cons 0 0 0 0 0 0 0 0 0}"))
	wantLightOrSteps(t, "9 copies", env, ap(copies, grow(12)), the("{cons 0 0 0 0 0 0 0 0 0}"))
	wantLight(t, "an argument of no use", env, ap(con("apart"), the("{loop 0}"), grow(99)), numeral(0))
}

// P9.1: what has no end is ErrSteps.
func TestNoEnd(t *testing.T) {
	env := append(slices.Clip(env), sample.Decl("(functions 0 (fun more 1 prop (leaf (app Nat.succ (app more #0)))) (fun deeper 1 prop (leaf (app even (app odd (app deeper #0))))))"))
	for _, s := range []string{"{loop 0}", "{(lam Nat {#0 #0}) (lam Nat {#0 #0})}", "{#0 {loop 0}}", "(lam {loop 0} #0)", "(lam #0 (lam #0 {loop #1}))", "(pi #0 {loop 0})", "(pair {loop 0} #0 #1)", "(fst (pair #0 {loop 0} #1))", "{plus {loop 0} #0}",
		"{plus #0 {loop 0}}", "{more 0}", "{(lam Nat {#0 #0}) (lam Nat {Nat.succ {#0 #0}})}", "{(lam Nat {#0 #0}) (lam Nat (lam Nat {#1 #1}))}", "{deeper 0}", "{(lam Nat {plus {#0 #0} #0}) (lam Nat {plus {#0 #0} #0})}"} {
		got, err := nbe.Norm(env, the(s))
		if err != api.ErrSteps || !term.Same(got, api.Term{}) {
			t.Errorf("Norm(%s): got %s, error %d, want ErrSteps", s, show(got), err)
		}
		if nbe.Normal(env, the(s)) {
			t.Errorf("Normal(%s) is true", s)
		}
	}
	// 2^30 nodes by 30 contractions
	many := x(0)
	for range 30 {
		many = ap(the("(lam prop {#0 #0})"), many)
	}
	if got, err := nbe.Norm(env, many); err != api.ErrSteps || !term.Same(got, api.Term{}) {
		t.Errorf("Norm of a term with many nodes: error %d", err)
	}
}

// P9.1: scrutinees in scrutinees, as many as light reductions can have
func TestScrutineesInScrutinees(t *testing.T) {
	calls := sample.Decl("(functions 0 (fun f 1 prop (split 0)) (fun g 1 prop (leaf #0)) (fun h 1 prop (split 0 (branch Nat.zero (leaf #0)) (branch Nat.succ (leaf #0)))))")
	calls.Funs[1].Tree.Body = sample.Nest(190, con("f"), ap(con("g"), x(0)))
	calls.Funs[2].Tree.Branches[1].Tree.Body = sample.Nest(190, con("f"), ap(con("h"), x(0)))
	env := append(slices.Clip(env), calls)
	if got, err := nbe.Norm(env, sample.Nest(190, con("f"), ap(con("g"), x(0)))); err != api.ErrSteps || !term.Same(got, api.Term{}) {
		t.Errorf("Norm of calls in calls: error %d", err)
	}
	wantLight(t, "calls in calls", env, sample.Nest(198, con("f"), x(0)), sample.Nest(198, con("f"), x(0)))
	// Here each scrutinee counts again as a part.
	wantLightOrSteps(t, "calls in calls", env, ap(con("h"), numeral(50)), sample.Nest(190*50, con("f"), numeral(0)))
}

// bush returns a term with 2 size - 1 nodes, for a power of 2.
func bush(size int) api.Term {
	if size == 1 {
		return meta(1)
	}
	return ap(bush(size/2), bush(size/2))
}

// P9.1: the result of a contraction may have up to MaxNodes nodes; it is part of a normal form with any number of them.
func TestGreatTerms(t *testing.T) {
	one := tm(api.Pi, bush(512), tm(api.Pi, bush(512), tm(api.Pi, bush(512), bush(512)))) // 4095 nodes
	from := ap(tm(api.Lam, con("Nat"), tm(api.Fst, x(0))), one)
	wantLight(t, "4096 nodes", env, from, tm(api.Fst, one))
	wantLight(t, "4096 nodes several times", env, ap(x(0), from, from, tm(api.Snd, from)), ap(x(0), tm(api.Fst, one), tm(api.Fst, one), tm(api.Snd, tm(api.Fst, one))))
	wantLightOrSteps(t, "4097 nodes", env, ap(tm(api.Lam, con("Nat"), tm(api.Fst, tm(api.Fst, x(0)))), one), tm(api.Fst, tm(api.Fst, one)))
	wantLightOrSteps(t, "many nodes", env, ap(the("(lam prop {#0 #0 #0 #0})"), one), ap(one, one, one, one))
	// The normal form of a normal form
	great, err := nbe.Norm(env, ap(x(0), from, from, from, from, from))
	if err != api.OK || term.Size(great) != 5*4097+1 || !nbe.Normal(env, great) {
		t.Errorf("a normal form with %d nodes, error %d", term.Size(great), err)
	}
	wantLight(t, "a great normal form", env, great, great)
}

// towers returns the environment with a function that makes 190 Nat.succ of each one, and one that makes 190 projections in its argument of each one.
func towers() []api.Decl {
	above := sample.Nest(190, con("Nat.succ"), ap(con("tower"), x(0)))
	stack := ap(con("stack"), x(0))
	for range 190 {
		stack = tm(api.Fst, stack)
	}
	tower := sample.Decl("(functions 0 (fun tower 1 prop (split 0 (branch Nat.zero (leaf Nat.zero)) (branch Nat.succ (leaf #0)))) (fun stack 1 prop (split 0 (branch Nat.zero (leaf thm)) (branch Nat.succ (leaf #0)))))")
	tower.Funs[0].Tree.Branches[1].Tree.Body = above
	tower.Funs[1].Tree.Branches[1].Tree.Body = stack
	return append(slices.Clip(env), tower)
}

// P9.1: a normal form may be deeper than MaxDepth.
func TestDeepNormalForms(t *testing.T) {
	env := towers()
	for _, n := range []int{1, 2, 20, 150} {
		wantLight(t, fmt.Sprint("a tower of ", n), env, ap(con("tower"), numeral(n)), numeral(190*n))
	}
	stack := con("thm")
	for range 190 * 150 {
		stack = tm(api.Fst, stack)
	}
	wantLight(t, "a stack of 150", env, ap(con("stack"), numeral(150)), stack)
	deep := ap(con("plus"), ap(con("tower"), numeral(4)), numeral(140))
	got, err := nbe.Norm(env, tm(api.Lam, con("Nat"), ap(con("tower"), numeral(190))))
	if err != api.OK || term.Depth(got) != 190*190+2 {
		t.Errorf("a tower of 190: depth %d, error %d", term.Depth(got), err)
	}
	wantLight(t, "a sum of towers", env, deep, numeral(900))
	short := nbe.Short(got)
	if term.Depth(short) != term.Depth(got) || short.Kids[0].Kind != api.Prop {
		t.Error("the short form of a deep term is another one")
	}
}

// P9.1: variables up to 65535 are in scope, also if their Index becomes greater below binders.
func TestGreatVariables(t *testing.T) {
	last := 65535
	for what, c := range map[string][2]api.Term{
		"a variable":             {x(last), x(last)},
		"a variable below":       {tm(api.Lam, x(last), x(last+1)), tm(api.Lam, x(last), x(last+1))},
		"a value below a binder": {ap(tm(api.Lam, x(last), tm(api.Pi, x(last+1), tm(api.Lam, x(2), x(2)))), x(last)), tm(api.Pi, x(last), tm(api.Lam, x(1), x(last+2)))},
		"a free variable":        {ap(tm(api.Lam, x(0), tm(api.Lam, x(0), x(last+2))), x(0)), tm(api.Lam, x(0), x(last+1))},
		"a leaf":                 {ap(con("leafy"), x(0), x(last), x(last)), ap(con("cons"), x(0), tm(api.Lam, con("Nat"), x(last+1)), x(last))},
	} {
		if err := term.Check(c[0], 65536, 0, 0, 0); err != api.OK {
			t.Errorf("%s: error %d", what, err)
		}
		wantLight(t, what, env, c[0], c[1])
	}
	if got := nbe.Short(tm(api.Lam, x(last), ap(tm(api.Pi, x(last+1), x(last+2)), x(0)))); !term.Same(got, tm(api.Pi, x(last), x(last+1))) {
		t.Errorf("Short of a term with great variables: got %s", show(got))
	}
}

// P9.2: the short forms of deep terms, as normal forms may be
func TestDeepShortForms(t *testing.T) {
	deep, want := x(1), x(0)
	for range 40000 {
		deep, want = tm(api.Fst, deep), tm(api.Fst, want)
	}
	if got := nbe.Short(tm(api.Lam, deep, ap(deep, x(0)))); !term.Same(got, want) {
		t.Error("the short form of a deep function")
	}
	if got := nbe.Short(tm(api.Pair, deep, tm(api.Fst, deep), tm(api.Snd, deep))); !term.Same(got, deep) {
		t.Error("the short form of a deep pair")
	}
	// Lam .. Lam f 199 .. 0
	f, args := 1000, 199
	from := ap(x(f+args), telescope.Vars(args, 0)...)
	for range args {
		from = tm(api.Lam, con("Nat"), from)
	}
	if got := nbe.Short(from); !term.Same(got, x(f)) {
		t.Errorf("the short form of a function of %d arguments is %s", args, show(got))
	}
	shifted, err := subst.Shift(from, 1, 0)
	if got := nbe.Short(shifted); err != api.OK || !term.Same(got, x(f+1)) {
		t.Errorf("the short form of a function of %d arguments is %s", args, show(got))
	}
}

// The functions return for arguments that they need not accept.
func TestOtherArguments(t *testing.T) {
	deep, double, functions := x(0), x(0), con("Nat.zero")
	for range 1 << 18 {
		deep, functions = tm(api.Fst, deep), ap(con("plus"), functions)
	}
	for range 60 {
		double = ap(double, double)
	}
	nbe.Norm(env, double)
	for _, s := range []api.Term{deep, functions} {
		nbe.Norm(env, s)
		nbe.Normal(env, s)
		nbe.Short(s)
	}
	if got := nbe.Short(double); !term.Same(got, api.Term{}) {
		t.Errorf("a term of 2^60 nodes has a short form with the kind %d", got.Kind)
	}
	huge := api.Level{Const: -7, Vars: []api.LevelVar{{Index: math.MinInt}, {Index: math.MaxInt}}}
	odd := []api.Term{x(-1), x(math.MaxInt), x(math.MinInt), tm(api.App), tm(api.App, x(0)), ap(tm(api.App), x(0)), tm(api.Lam), tm(api.Lam, x(0)), tm(api.Let), tm(api.Prop, x(0)), tm(api.Sort), tm(api.Pi), tm(api.Sigma, x(0)), tm(api.Lam, x(0), tm(api.App, x(1))),
		tm(api.Fst), tm(api.Snd), tm(api.Pair), tm(api.Fst, tm(api.Pair)), tm(api.Pair, x(0), tm(api.Fst), tm(api.Snd)), tm(-1, x(0)), tm(99), con(""), con("id", huge), con("head", huge), con("Nat.rec", huge), meta(-4), tm(api.Var, x(0)), tm(api.Lam, x(0), ap(x(1), tm(api.Var, x(0))))}
	for i, env := range sample.WrongEnvs() {
		for _, a := range odd {
			terms := []api.Term{a, ap(con("plus"), a, a), ap(con("two"), a), ap(con("Nat.rec", api.Level{}), a, a, a, a), ap(tm(api.Lam, a, a), a), tm(api.Fst, a), tm(api.Pair, a, a, a), tm(api.Lam, a, a)}
			if i == 0 {
				terms = slices.Concat(terms, odd)
			}
			for _, b := range terms {
				nbe.Norm(env, b)
				nbe.Normal(env, b)
				nbe.Short(b)
			}
		}
	}
	wantNorm(t, con("two"), numeral(2))
}
