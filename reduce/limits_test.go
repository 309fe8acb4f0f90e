package reduce_test

import (
	"fmt"
	"math"
	"slices"
	"testing"

	"euclid/api"
	"euclid/reduce"
	"euclid/term"
)

// sized returns a term with n nodes (n odd) that is not deep and not reducible, in which f is the head.
func sized(n int, f api.Term) api.Term {
	nodes := n - term.Size(f)
	switch {
	case nodes == 0:
		return f
	case nodes < 4:
		return sized(n, ap(f, meta(1)))
	case nodes%2 == 1:
		panic(n)
	}
	// Every argument is a bush; the first ones are the greatest.
	for size := 64; size > 0; size /= 2 {
		if 2*size <= nodes {
			return sized(n, ap(f, bush(size)))
		}
	}
	return f
}

// bush returns a term with 2 size - 1 nodes, for a power of 2.
func bush(size int) api.Term {
	if size == 1 {
		return meta(1)
	}
	return ap(bush(size/2), bush(size/2))
}

// nested returns a term of a greater depth.
func nested(depth int, t api.Term) api.Term {
	for term.Depth(t) < depth {
		t = ap(x(1), t)
	}
	return t
}

func wantSteps(t *testing.T, what string, err api.Errno, ok bool, got api.Term) {
	t.Helper()
	if err != api.ErrSteps || ok || !term.Same(got, api.Term{}) {
		t.Errorf("%s: got %s, %v, error %d, want ErrSteps", what, show(got), ok, err)
	}
}

func wantLight(t *testing.T, what string, from, want api.Term) {
	t.Helper()
	got, err := reduce.Whnf(env, from)
	if err != api.OK || !term.Same(got, want) {
		t.Errorf("Whnf, %s: got %.100s, error %d", what, show(got), err)
	}
}

// wantLightOrSteps checks that a reduction that is not light has no wrong result.
func wantLightOrSteps(t *testing.T, what string, from, want api.Term) {
	t.Helper()
	got, err := reduce.Whnf(env, from)
	if err == api.ErrSteps {
		wantSteps(t, what, err, false, got)
		return
	}
	wantLight(t, what, from, want)
}

// P8.1: up to MaxLight contractions are light.
func TestManyContractions(t *testing.T) {
	for n := range 100 {
		wantLight(t, fmt.Sprint("grow ", n), ap(con("grow"), numeral(n)), numeral(0))
	}
	lets := func(n int, t api.Term) api.Term {
		for range n {
			t = tm(api.Let, con("Nat"), con("Nat"), t)
		}
		return t
	}
	many := ap(con("grow"), numeral(95)) // 951 contractions
	for n := range 60 {
		what, from := fmt.Sprint(952+n, " contractions"), lets(n, ap(con("plus"), many, con("thm")))
		if 952+n > api.MaxLight {
			wantLightOrSteps(t, what, from, con("thm"))
			continue
		}
		wantLight(t, what, from, con("thm"))
		meta, ok, err := reduce.Blocked(env, lets(n, ap(con("plus"), many, meta(3))))
		if meta != 3 || !ok || err != api.OK {
			t.Errorf("Blocked, %s: got %d, %v, error %d", what, meta, ok, err)
		}
	}
	// Contractions in vain count, too.
	stuck := ap(con("plus"), ap(con("plus"), many, con("thm")), con("thm"))
	wantLight(t, "1000 contractions, 952 of them in vain", lets(48, stuck), stuck)
	wantLightOrSteps(t, "1001 contractions, 952 of them in vain", lets(49, stuck), stuck)
	arg := ap(con("plus"), many, ap(con("grow"), numeral(4)))
	got, ok, err := reduce.Select(env, tree("plus"), []api.Term{arg, x(3)})
	if err != api.OK || !ok || !term.Same(got, x(3)) {
		t.Errorf("Select, 993 contractions: got %s, %v, error %d", show(got), ok, err)
	}
}

// P8.1, P8.2: what has no end is ErrSteps.
func TestNoEnd(t *testing.T) {
	self := the("(lam Nat {#0 #0})")
	for _, s := range []api.Term{
		the("{loop 0}"), ap(self, self), ap(con("plus"), ap(self, self), x(0)), tm(api.Fst, the("{loop 0}")), the("{(const Nat.rec [0]) #1 #2 #3 {loop 0}}"),
		ap(the("(lam Nat {#0 #0 #0})"), the("(lam Nat {#0 #0 #0})")), ap(the("(lam Nat {#1 {#0 #0}})"), the("(lam Nat {plus {#0 #0} 0})")),
	} {
		got, err := reduce.Whnf(env, s)
		if err == api.OK {
			if again, _ := reduce.Whnf(env, got); !term.Same(again, got) {
				t.Errorf("Whnf(%s) is %s", show(s), show(got))
			}
			continue
		}
		wantSteps(t, "Whnf("+show(s)+")", err, false, got)
		meta, ok, err := reduce.Blocked(env, s)
		wantSteps(t, "Blocked("+show(s)+")", err, ok, x(meta))
		got, ok, err = reduce.Select(env, tree("even"), []api.Term{s})
		wantSteps(t, "Select("+show(s)+")", err, ok, got)
	}
	if _, err := reduce.Whnf(env, the("{loop 0}")); err != api.ErrSteps {
		t.Errorf("Whnf of loop: error %d", err)
	}
	wantStep(t, the("{loop 0}"), the("{loop 0}"))
}

// P8.1: results of contractions have at most MaxNodes nodes, and the term around them does not count.
func TestGreatTerms(t *testing.T) {
	for _, n := range []int{4095, 4096, 4097, 4098} {
		// The body has one node more than n - 1, and the argument takes the place of a variable.
		body := sized((n-1)/2*2+1, x(0))
		value := tm(api.Fst, x(2))
		from := ap(tm(api.Lam, con("Nat"), body), value)
		want := sized((n-1)/2*2+2, value)
		if n%2 == 1 {
			from, want = ap(tm(api.Lam, con("Nat"), body), x(2)), sized(n, x(2))
		}
		if term.Size(want) != n {
			t.Fatalf("%d nodes instead of %d", term.Size(want), n)
		}
		got, ok, err := reduce.Step(env, from)
		if n <= api.MaxNodes {
			wantLight(t, fmt.Sprint(n, " nodes"), from, want)
			wantLight(t, fmt.Sprint(n, " nodes below Fst"), tm(api.Fst, from), tm(api.Fst, want))
			wantLight(t, fmt.Sprint(n, " nodes below Fst, with an argument"), ap(tm(api.Fst, tm(api.Snd, from)), x(4)), ap(tm(api.Fst, tm(api.Snd, want)), x(4)))
			wantLight(t, fmt.Sprint(n, " nodes in a scrutinee"), ap(con("plus"), from, bush(64)), ap(con("plus"), from, bush(64)))
			if err != api.OK || !ok || !term.Same(got, want) {
				t.Errorf("Step, %d nodes: got error %d", n, err)
			}
		} else {
			wantLightOrSteps(t, fmt.Sprint(n, " nodes"), from, want)
			wantSteps(t, fmt.Sprint("Step, ", n, " nodes"), err, ok, got)
		}
		got, ok, err = reduce.Step(env, tm(api.Fst, from))
		if n+1 > api.MaxNodes {
			wantSteps(t, fmt.Sprint("Step, ", n+1, " nodes"), err, ok, got)
		} else if err != api.OK || !ok || !term.Same(got, tm(api.Fst, want)) {
			t.Errorf("Step, %d nodes: got error %d", n+1, err)
		}
	}
}

// P8.1: the same for the depth.
func TestDeepTerms(t *testing.T) {
	for depth := 197; depth <= 203; depth++ {
		inner := nested(100, x(0))
		want := nested(depth, inner)
		body := x(0)
		for range depth - 100 {
			body = ap(x(2), body)
		}
		from := ap(tm(api.Lam, con("Nat"), body), inner)
		got, ok, err := reduce.Step(env, from)
		if depth <= api.MaxDepth {
			wantLight(t, fmt.Sprint("depth ", depth), from, want)
			wantLight(t, fmt.Sprint("depth ", depth, " below Fst"), tm(api.Fst, tm(api.Snd, from)), tm(api.Fst, tm(api.Snd, want)))
			if err != api.OK || !ok || !term.Same(got, want) {
				t.Errorf("Step, depth %d: got %s, %v, error %d", depth, show(got), ok, err)
			}
		} else {
			wantLightOrSteps(t, fmt.Sprint("depth ", depth), from, want)
			wantSteps(t, fmt.Sprint("Step, depth ", depth), err, ok, got)
		}
		got, ok, err = reduce.Step(env, tm(api.Fst, tm(api.Snd, from)))
		if depth+2 > api.MaxDepth {
			wantSteps(t, fmt.Sprint("Step, depth ", depth+2), err, ok, got)
		} else if err != api.OK || !ok || !term.Same(got, tm(api.Fst, tm(api.Snd, want))) {
			t.Errorf("Step, depth %d: got error %d", depth+2, err)
		}
	}
}

// P8.1, P8.2: variables up to 65535 are in scope, also if their Index becomes greater below binders. Only Step refuses what subst refuses.
func TestGreatVariables(t *testing.T) {
	last := 65535
	wantLight(t, "the last variable", ap(tm(api.Lam, x(last), x(last+1)), x(0)), x(last))
	wantStep(t, ap(tm(api.Lam, x(last), x(last+1)), x(0)), x(last))
	wantStep(t, ap(tm(api.Lam, x(last), tm(api.Lam, x(0), x(last+1))), x(0)), tm(api.Lam, x(0), x(last)))
	for what, c := range map[string][2]api.Term{
		"a greater variable":          {ap(tm(api.Lam, x(last), tm(api.Lam, x(0), x(last+2))), x(0)), tm(api.Lam, x(0), x(last+1))},
		"a value below a binder":      {ap(tm(api.Lam, x(last), tm(api.Let, x(0), x(2), tm(api.Pi, x(1), x(2)))), x(last)), tm(api.Pi, x(last), x(last+1))},
		"a value with a binder":       {ap(tm(api.Lam, x(last), ap(x(1), x(0))), tm(api.Sigma, x(last), x(last+1))), ap(x(0), tm(api.Sigma, x(last), x(last+1)))},
		"a value in several binders":  {ap(tm(api.Lam, x(last), tm(api.Pi, x(0), tm(api.Pi, x(1), x(2)))), x(last)), tm(api.Pi, x(last), tm(api.Pi, x(last+1), x(last+2)))},
		"a leaf":                      {ap(con("leafy"), x(0), x(last), x(last), x(3)), ap(con("cons"), x(0), tm(api.Lam, con("Nat"), x(last+1)), x(last), x(3))},
		"a let":                       {tm(api.Let, x(0), x(last), tm(api.Pi, x(0), tm(api.Let, x(0), x(2), x(2)))), tm(api.Pi, x(last), tm(api.Let, x(0), x(1), x(last+2)))},
		"a projection in the way":     {tm(api.Fst, ap(tm(api.Lam, x(last), tm(api.Lam, x(0), x(last+2))), x(0))), tm(api.Fst, tm(api.Lam, x(0), x(last+1)))},
		"a scrutinee that is reduced": {ap(con("plus"), ap(tm(api.Lam, x(0), ap(con("Nat.succ"), tm(api.Lam, x(0), x(last+2)))), x(0)), x(5)), ap(con("Nat.succ"), ap(con("plus"), tm(api.Lam, x(0), x(last+1)), x(5)))},
	} {
		if err := term.Check(c[0], 65536, 0, 0, 0); err != api.OK {
			t.Errorf("%s: error %d", what, err)
		}
		wantLight(t, what, c[0], c[1])
		if what != "a let" {
			got, ok, err := reduce.Step(env, c[0])
			wantSteps(t, "Step, "+what, err, ok, got)
		}
	}
	got, ok, err := reduce.Select(env, tree("leafy"), []api.Term{x(0), x(last), x(1)})
	if err != api.OK || !ok || !term.Same(got, ap(con("cons"), x(0), tm(api.Lam, con("Nat"), x(last+1)), x(1))) {
		t.Errorf("Select of a great variable: got %s, %v, error %d", show(got), ok, err)
	}
	// The greater limit is that of Index only.
	for depth, want := range map[int]api.Errno{196: api.OK, 197: api.OK, 198: api.ErrSteps} {
		got, ok, err := reduce.Select(env, tree("leafy"), []api.Term{nested(depth, x(0)), x(last), x(1)})
		if err == api.OK && want == api.ErrSteps {
			want = api.OK
		}
		if err != want || ok != (want == api.OK) {
			t.Errorf("Select of depth %d and a great variable: got %s, %v, error %d", depth+3, show(got), ok, err)
		}
	}
	meta, ok, err := reduce.Blocked(env, ap(tm(api.Lam, x(0), tm(api.Fst, ap(meta(4), tm(api.Lam, x(0), x(last+2))))), x(0)))
	if meta != 4 || !ok || err != api.OK {
		t.Errorf("Blocked by a term with a great variable: got %d, %v, error %d", meta, ok, err)
	}
	// Nothing is moved here.
	great := tm(api.Lam, x(last), x(last+1))
	wantStep(t, ap(con("two"), great), ap(con("Nat.succ"), ap(con("Nat.succ"), con("Nat.zero")), great))
}

// P8.1: scrutinees in scrutinees, as many as light reductions can have.
func TestScrutineesInScrutinees(t *testing.T) {
	env := append(slices.Clip(env), api.Decl{Kind: api.DeclFunctions, Funs: []api.Fun{
		{Name: "f", Arity: 1, Type: tm(api.Prop), Tree: api.Tree{Kind: api.TreeSplit}},
		{Name: "g", Arity: 1, Type: tm(api.Prop), Tree: api.Tree{Body: deepCall("f", 190, ap(con("g"), x(0)))}},
	}})
	got, err := reduce.Whnf(env, deepCall("f", 190, ap(con("g"), x(0))))
	wantSteps(t, "calls in calls", err, false, got)
	_, ok, err := reduce.Blocked(env, deepCall("f", 190, ap(con("g"), x(0))))
	wantSteps(t, "calls in calls", err, ok, api.Term{})
	got, err = reduce.Whnf(env, deepCall("f", 198, meta(0)))
	if err != api.OK || !term.Same(got, deepCall("f", 198, meta(0))) {
		t.Errorf("a metavariable in calls: error %d", err)
	}
	if index, ok, err := reduce.Blocked(env, deepCall("f", 198, meta(7))); index != 7 || !ok || err != api.OK {
		t.Errorf("Blocked by a metavariable in calls: got %d, %v, error %d", index, ok, err)
	}
}

// deepCall returns f applied to f applied to .. a term.
func deepCall(f string, n int, t api.Term) api.Term {
	for range n {
		t = ap(con(f), t)
	}
	return t
}

// The functions return for arguments that they need not accept.
func TestOtherArguments(t *testing.T) {
	deep, double, functions := x(0), x(0), con("Nat.zero")
	for range 1 << 15 {
		deep, functions = tm(api.Fst, deep), ap(con("plus"), functions)
	}
	for range 60 {
		double = ap(double, double)
	}
	huge := api.Level{Const: -7, Vars: []api.LevelVar{{Index: math.MinInt}, {Index: math.MaxInt}}}
	odd := []api.Term{deep, double, functions, x(-1), x(math.MaxInt), x(math.MinInt), tm(api.App), tm(api.App, x(0)), ap(tm(api.App), x(0)), tm(api.Lam), tm(api.Lam, x(0)), tm(api.Let),
		tm(api.Fst), tm(api.Snd), tm(api.Pair), tm(api.Fst, tm(api.Pair)), tm(-1, x(0)), tm(99), con(""), con("id", huge), con("head", huge), meta(-4), tm(api.Var, x(0))}
	odd = append(odd, ap(tm(api.Lam, x(0), double), x(0)), ap(tm(api.Lam, x(0), x(0)), double), ap(con("two"), double), ap(con("plus"), con("two"), double))
	envs := [][]api.Decl{env, nil,
		{{Kind: 9}}, {{Kind: api.DeclFamily, Name: "plus", Fixed: -3}}, {{Kind: api.DeclFamily, Name: "plus", Fixed: 9, Ctors: []api.Ctor{{Name: "two", Type: double}, {Name: "Nat.zero", Type: deep}}}},
		{{Kind: api.DeclDef, Name: "two", Value: double}}, {{Kind: api.DeclFunctions, Funs: []api.Fun{{Name: "plus", Arity: -1}, {Name: "two", Arity: math.MinInt}}}},
		{{Kind: api.DeclFunctions, Funs: []api.Fun{{Name: "plus", Arity: 1, Tree: api.Tree{Kind: 7, Var: -2}}, {Name: "two", Tree: api.Tree{Kind: api.TreeSplit, Var: math.MaxInt}}}}},
	}
	for i, env := range envs {
		for j, a := range odd {
			terms := []api.Term{a, ap(con("plus"), a, a), ap(con("two"), a), ap(con("Nat.rec", api.Level{}), a, a, a, a), ap(tm(api.Lam, a, a), a), tm(api.Fst, a)}
			if i == 0 && j > 2 {
				terms = slices.Concat(terms, odd[3:])
			}
			for _, b := range terms {
				reduce.Whnf(env, b)
				reduce.Step(env, b)
				reduce.Blocked(env, b)
				reduce.Select(env, tree("less"), []api.Term{a, b})
				reduce.Select(env, tree("plus"), nil)
			}
		}
	}
	wantWhnf(t, the("two"), numeral(2))
}
