package conv_test

import (
	"math"
	"slices"
	"strings"
	"testing"

	"euclid/api"
	"euclid/conv"
	"euclid/sample"
	"euclid/term"
)

// wantEqual checks whether two terms are convertible, by reductions that are light.
func wantEqual(t *testing.T, what string, env []api.Decl, a, b api.Term, want bool) {
	t.Helper()
	for _, pair := range [][2]api.Term{{a, b}, {b, a}} {
		if got, err := conv.Equal(env, pair[0], pair[1]); got != want || err != api.OK {
			t.Errorf("Equal, %s: got %v, error %d", what, got, err)
		}
		if _, got, err := conv.Join(env, pair[0], pair[1]); got != want || err != api.OK {
			t.Errorf("Join, %s: got %v, error %d", what, got, err)
		}
	}
	wantSub(t, what, env, a, b, want)
}

func wantSub(t *testing.T, what string, env []api.Decl, a, b api.Term, want bool) {
	t.Helper()
	if got, err := conv.Sub(env, a, b); got != want || err != api.OK {
		t.Errorf("Sub, %s: got %v, error %d", what, got, err)
	}
}

// P10.1, P10.2: up to MaxLight contractions, those for both terms and for their expansions together, are light.
func TestManyContractions(t *testing.T) {
	many := sample.Decl("(functions 0 (fun many 2 prop (leaf " + strings.Repeat("(app ", 30) + "cons" + strings.Repeat(" #1)", 30) + ")))")
	env := append(slices.Clip(env), many)
	grow := func(n int) api.Term { return ap(con("grow"), numeral(n)) } // 10 n + 1 contractions
	wantEqual(t, "1000 contractions", env, sample.Nest(8, the("(lam prop #0)"), grow(49)), grow(50), true)
	wantEqual(t, "1000 contractions", env, ap(x(0), sample.Nest(8, the("(lam prop #0)"), grow(49)), x(1)), ap(x(0), grow(50), x(2)), false)
	wantEqual(t, "functions", env, tm(api.Lam, con("Nat"), ap(x(1), grow(40), x(0))), ap(x(0), grow(59)), true)
	wantEqual(t, "pairs", env, tm(api.Pair, con("Nat"), tm(api.Fst, ap(x(0), grow(20))), tm(api.Snd, ap(x(0), grow(20)))), ap(x(0), grow(50)), true)
	wantSub(t, "types", env, tm(api.Pi, grow(49), the("prop")), tm(api.Pi, grow(49), the("(sort [0])")), true)
	// The argument is normalized once, before the function is expanded and uses it 30 times.
	constant := tm(api.Lam, con("Nat"), grow(90))
	uses := con("cons")
	for range 30 {
		uses = ap(uses, the("(lam prop 0)"))
	}
	wantEqual(t, "an argument that is used many times", env, ap(con("many"), constant), tm(api.Lam, con("Nat"), uses), true)
	wantEqual(t, "an argument that is used many times", env, ap(con("many"), constant), ap(con("many"), the("(lam prop 0)")), true)
	wantEqual(t, "an argument that is used many times", env, ap(con("many"), constant), ap(con("many"), the("(lam prop 1)")), false)
	large := ap(tm(api.Lam, con("Nat"), numeral(0)), numeral(100))
	wantEqual(t, "a great argument that is used many times", env, ap(con("many"), large), ap(con("many"), numeral(0)), true)
	// More than that has no wrong result.
	for n := 48; n < 60; n++ {
		got, err := conv.Equal(env, ap(x(0), grow(n)), ap(x(0), grow(50)))
		if !(got && err == api.OK || !got && err == api.ErrSteps) {
			t.Errorf("Equal, %d contractions: got %v, error %d", 10*n+502, got, err)
		}
		got, err = conv.Sub(env, tm(api.Pi, grow(n), con("two")), tm(api.Pi, grow(50), con("Nat")))
		if got || err != api.OK && err != api.ErrSteps {
			t.Errorf("Sub, %d contractions: got %v, error %d", 10*n+502, got, err)
		}
	}
}

// P10.1, P10.2: what has no end is ErrSteps.
func TestNoEnd(t *testing.T) {
	env := append(slices.Clip(env), sample.Decl("(functions 0 (fun more 1 prop (leaf (app Nat.succ (app more #0)))) (fun lots 1 prop (leaf (app Nat.succ (app lots #0)))) (fun pis 1 prop (leaf (pi prop (app pis #1)))))"))
	for _, c := range [][2]string{{"{loop 0}", "0"}, {"{loop 0}", "{loop 1}"}, {"{#0 {loop 0}}", "{#0 1}"}, {"{(lam Nat {#0 #0}) (lam Nat {#0 #0})}", "prop"}, {"{more 0}", "{lots 0}"}, {"{more 0}", "{more 1}"}, {"{pis 0}", "{pis 1}"}, {"itself", "#0"},
		{"{#0 itself}", "{#0 plus}"}, {"(lam prop {loop 0})", "#0"}, {"(pair prop {loop 0} #0)", "#1"}, {"(fst {loop 0})", "(fst #0)"}, {"(pi prop {loop 0})", "(pi prop prop)"}, {"(sigma {loop 0} prop)", "(sigma prop prop)"}, {"{plus {loop 0}}", "{plus 0}"}} {
		for _, pair := range [][2]string{c, {c[1], c[0]}} {
			if got, err := conv.Equal(env, the(pair[0]), the(pair[1])); got || err != api.ErrSteps {
				t.Errorf("Equal(%s, %s): got %v, error %d", pair[0], pair[1], got, err)
			}
			if got, err := conv.Sub(env, the(pair[0]), the(pair[1])); got || err != api.ErrSteps {
				t.Errorf("Sub(%s, %s): got %v, error %d", pair[0], pair[1], got, err)
			}
			if got, ok, err := conv.Join(env, the(pair[0]), the(pair[1])); ok || err != api.ErrSteps || !term.Same(got, api.Term{}) {
				t.Errorf("Join(%s, %s): got %s, %v, error %d", pair[0], pair[1], show(got), ok, err)
			}
		}
	}
	// Equal terms have no common short normal form if they have none.
	if got, ok, err := conv.Join(env, the("{loop 0}"), the("{loop 0}")); ok || err != api.ErrSteps || !term.Same(got, api.Term{}) {
		t.Errorf("Join(loop, loop): got %s, %v, error %d", show(got), ok, err)
	}
}

// towers returns the environment with functions to terms that are much deeper than MaxDepth.
func towers() []api.Decl {
	d := sample.Decl("(functions 0 (fun tower 1 prop (split 0 (branch Nat.zero (leaf Nat.zero)) (branch Nat.succ (leaf #0)))) (fun small 1 prop (split 0 (branch Nat.zero (leaf prop)) (branch Nat.succ (leaf #0)))) (fun great 1 prop (split 0 (branch Nat.zero (leaf (sort [0]))) (branch Nat.succ (leaf #0)))))")
	types := func(f string) api.Term {
		t := ap(con(f), x(190))
		for range 190 {
			t = tm(api.Pi, con("two"), t)
		}
		return t
	}
	for i, body := range []api.Term{sample.Nest(190, con("Nat.succ"), ap(con("tower"), x(0))), types("small"), types("great")} {
		d.Funs[i].Tree.Branches[1].Tree.Body = body
	}
	return append(slices.Clip(env), d)
}

// P10.1, P10.2: what is compared may be deeper than MaxDepth.
func TestDeepTerms(t *testing.T) {
	env := towers()
	tower := func(n int) api.Term { return ap(con("tower"), numeral(n)) }
	same := the("(lam prop #0)")
	wantEqual(t, "towers", env, tower(60), ap(same, ap(con("tower"), ap(con("plus"), numeral(30), numeral(30)))), true)
	wantEqual(t, "towers", env, tower(60), ap(same, tower(61)), false)
	wantEqual(t, "a function of a tower", env, tm(api.Lam, con("Nat"), ap(x(1), tower(60), x(0))), ap(x(0), ap(same, tower(60))), true)
	wantEqual(t, "a sum of towers", env, ap(con("plus"), tower(2), tower(1)), tower(3), true)
	wantEqual(t, "a partial sum", env, ap(con("plus"), tower(2)), tm(api.Lam, con("Nat"), sample.Nest(190, con("Nat.succ"), sample.Nest(190, con("Nat.succ"), x(0)))), true)
	small, great := ap(con("small"), numeral(2)), ap(con("great"), numeral(2))
	wantSub(t, "many functions", env, small, great, true)
	wantSub(t, "many functions", env, great, small, false)
	if got, err := conv.Equal(env, small, great); got || err != api.OK {
		t.Errorf("Equal, many functions: got %v, error %d", got, err)
	}
	wantEqual(t, "many functions", env, small, ap(same, small), true)
}

// P10.1, P10.2: variables up to 65535 are in scope.
func TestGreatVariables(t *testing.T) {
	last := 65535
	lam := func(body api.Term) api.Term { return tm(api.Lam, con("Nat"), body) }
	wantEqual(t, "a variable", env, x(last), lam(ap(x(last+1), x(0))), true)
	wantEqual(t, "a pair", env, x(last), tm(api.Pair, x(0), tm(api.Fst, x(last)), tm(api.Snd, x(last))), true)
	wantEqual(t, "a partial application", env, ap(con("plus"), x(last)), lam(ap(con("plus"), x(last+1), x(0))), true)
	wantEqual(t, "a partial application", env, ap(con("flip"), x(last)), lam(lam(ap(x(last+2), x(0), x(1)))), true)
	wantEqual(t, "variables", env, ap(con("plus"), x(last)), ap(con("plus"), x(last-1)), false)
	wantSub(t, "a type", env, tm(api.Pi, x(last), the("prop")), tm(api.Pi, ap(the("(lam prop #0)"), x(last)), the("(sort [0])")), true)
	join, ok, err := conv.Join(env, ap(con("flip"), x(last)), ap(con("flip"), x(last)))
	want := tm(api.Lam, tm(api.Prop), tm(api.Lam, tm(api.Prop), ap(x(last+2), x(0), x(1))))
	if !ok || err != api.OK || !term.Same(join, want) {
		t.Errorf("Join of great variables: got %s, %v, error %d", show(join), ok, err)
	}
}

// The functions return for arguments that they need not accept.
func TestOtherArguments(t *testing.T) {
	deep, double := x(0), x(0)
	for range 1 << 15 {
		deep = tm(api.Fst, deep)
	}
	for range 60 {
		double = ap(double, double)
	}
	all := func(env []api.Decl, a, b api.Term) {
		conv.Equal(env, a, b)
		conv.Sub(env, a, b)
		conv.Join(env, a, b)
	}
	all(env, deep, tm(api.Fst, deep))
	all(env, deep, tm(api.Lam, x(0), deep))
	all(env, double, ap(x(1), double))
	all(env, tm(api.Pi, x(0), deep), tm(api.Pi, x(1), deep))
	huge := api.Level{Const: -7, Vars: []api.LevelVar{{Index: math.MinInt}, {Index: math.MaxInt}}}
	odd := []api.Term{x(-1), x(math.MaxInt), tm(api.App), tm(api.App, x(0)), ap(tm(api.App), x(0)), tm(api.Lam), tm(api.Lam, x(0)), tm(api.Let), tm(api.Prop, x(0)), tm(api.Sort), api.Term{Kind: api.Sort, Levels: []api.Level{huge}}, tm(api.Pi), tm(api.Sigma, x(0)),
		tm(api.Fst), tm(api.Pair), tm(api.Fst, tm(api.Pair)), tm(api.Pair, x(0), tm(api.Fst), tm(api.Snd)), tm(-1, x(0)), tm(99), con(""), con("id", huge), con("head", huge), con("plus", huge), meta(-4), tm(api.Var, x(0))}
	for i, env := range sample.WrongEnvs() {
		others := odd
		if i > 0 {
			others = odd[:3]
		}
		for _, a := range odd {
			for _, b := range others {
				for _, pair := range [][2]api.Term{{a, b}, {ap(con("plus"), a), ap(con("plus"), b)}, {con("two"), ap(con("two"), b)}, {tm(api.Pi, a, b), tm(api.Pi, b, a)}, {tm(api.Lam, a, b), tm(api.Pair, a, b, a)}} {
					all(env, pair[0], pair[1])
				}
			}
		}
	}
	wantEqual(t, "after all these", env, con("two"), numeral(2), true)
}
