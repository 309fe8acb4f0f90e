package typing_test

import (
	"fmt"
	"math"
	"slices"
	"testing"

	"euclid/api"
	"euclid/sample"
	"euclid/telescope"
	"euclid/term"
	"euclid/typing"
)

// wantType checks the type of a term.
func wantType(t *testing.T, what string, env []api.Decl, ctx []api.Term, from, want api.Term) {
	t.Helper()
	got, err := typing.Infer(env, ctx, from)
	if err != api.OK || !term.Same(got, want) {
		t.Errorf("Infer, %s: got %s, error %d, want %s", what, show(got), err, show(want))
	}
}

// wantTypeOrSteps checks that a term has no wrong type.
func wantTypeOrSteps(t *testing.T, what string, ctx []api.Term, from, want api.Term) {
	t.Helper()
	got, err := typing.Infer(env, ctx, from)
	if !(err == api.OK && term.Same(got, want) || err == api.ErrSteps && isZero(got)) {
		t.Errorf("Infer, %s: got %s, error %d", what, show(got), err)
	}
}

// bush returns a term with a number of leaves, a power of 2, that are joined by twos.
func bush(leaves int, leaf api.Term, join func(a, b api.Term) api.Term) api.Term {
	if leaves == 1 {
		return leaf
	}
	half := bush(leaves/2, leaf, join)
	return join(half, half)
}

func sigma(a, b api.Term) api.Term { return tm(api.Sigma, a, b) }

// P11.1: a type may have more nodes than MaxNodes, and be deeper than MaxDepth.
func TestGreatTypes(t *testing.T) {
	nat := con("Nat")
	great := bush(1024, nat, sigma)
	from := tm(api.Lam, great, tm(api.Lam, nat, x(1)))
	want := tm(api.Pi, great, tm(api.Pi, nat, great))
	if term.Check(from, 0, 0, 0, 0) != api.OK || term.Size(want) <= api.MaxNodes {
		t.Fatalf("%d and %d nodes", term.Size(from), term.Size(want))
	}
	wantType(t, "great types", env, nil, from, want)
	env := append(slices.Clip(env), api.Decl{Kind: api.DeclDef, Name: "Great", Type: the("(sort [0])"), Value: great})
	named := the("(pi Great (pi Nat Great))")
	wantType(t, "an argument with a great type", env, nil, ap(tm(api.Lam, named, the("0")), from), nat)
	if err := typing.Check(env, nil, from, named); err != api.OK {
		t.Errorf("Check of a great type: error %d", err)
	}
	if err := typing.Check(env, nil, from, the("(pi Great (pi Nat Nat))")); err != api.ErrType {
		t.Errorf("Check of another great type: error %d", err)
	}
	if sort, err := typing.SortOf(env, nil, great); err != api.OK || !term.Same(sort, the("(sort [0])")) {
		t.Errorf("SortOf a great type: got %s, error %d", show(sort), err)
	}
	deep := nat
	for range 150 {
		deep = tm(api.Pi, nat, deep)
	}
	deepFrom, deepWant := x(100), deep
	for range 100 {
		deepFrom, deepWant = tm(api.Lam, nat, deepFrom), tm(api.Pi, nat, deepWant)
	}
	wantType(t, "a deep type", env, []api.Term{deep}, deepFrom, deepWant)
}

// P11.1, P11.2: up to MaxLight contractions, those for all types together, are light.
func TestManyContractions(t *testing.T) {
	grow := func(n int) api.Term { return ap(con("grow"), numeral(n)) } // 10 n + 1 contractions
	f := func(n int) api.Term { return ap(con("F"), grow(n)) }
	ctx := []api.Term{ap(con("F"), sample.Nest(8, the("(lam Nat #0)"), grow(49))), tm(api.Pi, f(20), con("Nat")), f(21), f(12)}
	if err := typing.Check(env, ctx, x(3), f(50)); err != api.OK {
		t.Errorf("Check, 1000 contractions: error %d", err)
	}
	if err := typing.Check(env, ctx, x(3), ap(con("F"), ap(con("Nat.succ"), grow(50)))); err != api.ErrType {
		t.Errorf("Check, 1000 contractions: error %d", err)
	}
	wantType(t, "412 and 322 contractions", env, ctx, ap(con("plus"), ap(x(2), x(1)), ap(x(2), x(0))), con("Nat"))
	tel := []api.Term{f(20), f(30)}
	if at, err := typing.Args(env, ctx, tel, []api.Term{x(1), x(0)}); at != 0 || err != api.OK {
		t.Errorf("Args, 834 contractions: got %d, error %d", at, err)
	}
	// More than that has no wrong result.
	for n := 51; n < 101; n++ {
		if err := typing.Check(env, ctx, x(3), f(n)); err != api.OK && err != api.ErrSteps {
			t.Errorf("Check, %d contractions: error %d", 500+10*n, err)
		}
		wantTypeOrSteps(t, "many contractions", ctx, ap(tm(api.Lam, f(n), tm(api.Lam, f(n), the("0"))), x(3), x(3)), con("Nat"))
	}
}

// P11.1, P11.2: what has no end is ErrSteps, unless there is an error before.
func TestNoEnd(t *testing.T) {
	ctx := read("{Spin 0}", "(pi {Spin 0} Nat)", "{F {loop 0}}")
	for source, want := range map[string]api.Errno{
		"{#2 0}": api.ErrSteps, "(fst #2)": api.ErrSteps, "(lam #2 #0)": api.ErrSteps, "{Nat.succ #2}": api.ErrSteps, "{#1 0}": api.ErrSteps, "{(lam {F 0} 0) #0}": api.ErrSteps, "(let Nat #2 ?0)": api.ErrSteps, "(pair {Spin 0} 0 0)": api.ErrSteps,
		"{#2 none}": api.ErrSteps, "{none {#2 0}}": api.ErrNone, "{Nat.succ {Nat {#2 0}}}": api.ErrFun,
	} {
		if got, err := typing.Infer(env, ctx, the(source)); err != want || !isZero(got) {
			t.Errorf("Infer(%s): got %s, error %d", source, show(got), err)
		}
	}
	wantType(t, "a type without an end", env, ctx, x(2), the("{Spin 0}"))
	wantType(t, "the same type", env, ctx, the("(lam {Spin 0} #0)"), the("(pi {Spin 0} {Spin 0})"))
	if err := typing.Check(env, ctx, x(2), con("Nat")); err != api.ErrSteps {
		t.Errorf("Check: error %d", err)
	}
	if sort, err := typing.SortOf(env, ctx, x(2)); err != api.ErrSteps || !isZero(sort) {
		t.Errorf("SortOf: got %s, error %d", show(sort), err)
	}
	if at, err := typing.Context(env, read("{Spin 0}", "Nat", "#1")); at != 2 || err != api.ErrSteps {
		t.Errorf("Context: got %d, error %d", at, err)
	}
	if at, err := typing.Args(env, ctx, read("Nat", "Nat"), read("0", "#2")); at != 1 || err != api.ErrSteps {
		t.Errorf("Args: got %d, error %d", at, err)
	}
}

// sized returns a number with n nodes, for which the first component of a variable is used if n is even.
func sized(n, variable int) api.Term {
	switch n {
	case 1:
		return con("Nat.zero")
	case 2:
		return tm(api.Fst, x(variable))
	case 3, 4:
		return ap(con("Nat.succ"), sized(n-2, variable))
	}
	half := (n - 3) / 4 * 2
	return ap(con("plus"), sized(half+1, variable), sized(n-4-half, variable))
}

// P11.1, P11.2: a term that is formed by a substitution may have MaxNodes nodes, and the depth MaxDepth.
func TestFormedTerms(t *testing.T) {
	want := func(what string, fits bool, ctx []api.Term, from, of api.Term) {
		t.Helper()
		if fits {
			wantType(t, what, env, ctx, from, of)
		} else {
			wantTypeOrSteps(t, what, ctx, from, of)
		}
	}
	value, first := sized(101, 0), tm(api.Fst, x(0))
	// use returns a number with n nodes if those of v, which are in it twice, are so many.
	use := func(v api.Term, nodes, n, variable int) api.Term {
		return ap(con("plus"), v, ap(con("plus"), v, sized(n-6-2*nodes, variable)))
	}
	for n := api.MaxNodes - 3; n < api.MaxNodes+4; n++ {
		what, fits := fmt.Sprint(n, " nodes"), n <= api.MaxNodes
		want("a Let with "+what, fits, read("(sigma Nat Nat)"), tm(api.Let, con("Nat"), value, use(x(0), 101, n, 1)), con("Nat"))
		of := func(v api.Term, nodes, variable int) api.Term { return ap(con("F"), use(v, nodes, n-2, variable)) }
		ctx := []api.Term{the("(sigma Nat Nat)"), tm(api.Pi, con("Nat"), of(x(0), 101, 1)), tm(api.Sigma, con("Nat"), of(x(0), 2, 2))}
		want("an application with "+what, fits, ctx, ap(x(1), value), of(value, 101, 2))
		if fits {
			wantType(t, "a component with "+what, env, ctx, tm(api.Snd, x(0)), of(first, 2, 2))
		}
		if _, err := typing.Infer(env, ctx, tm(api.Pair, tm(api.Sigma, con("Nat"), of(x(0), 101, 3)), value, the("none"))); err != api.ErrNone {
			t.Errorf("Infer, a wrong component for a type with %s: error %d", what, err)
		}
		tel := []api.Term{con("Nat"), of(x(0), 101, 3)}
		if at, err := typing.Args(env, ctx, tel, []api.Term{value, the("p")}); at != 1 || err != api.ErrType && (fits || err != api.ErrSteps) {
			t.Errorf("Args with %s: got %d, error %d", what, at, err)
		}
		if at, err := typing.Args(env, ctx, tel, []api.Term{value, the("none")}); at != 1 || err != api.ErrNone {
			t.Errorf("Args with %s: got %d, error %d", what, at, err)
		}
	}
	for depth := 197; depth < 204; depth++ {
		what, succ := fmt.Sprint("depth ", depth), con("Nat.succ")
		value := sample.Nest(99, succ, the("0"))
		from := tm(api.Let, con("Nat"), value, sample.Nest(depth-100, succ, x(0)))
		want("a Let with "+what, depth <= api.MaxDepth, nil, from, con("Nat"))
		codomain := ap(con("F"), sample.Nest(depth-101, succ, x(0)))
		of := ap(con("F"), sample.Nest(depth-2, succ, the("0")))
		want("an application with "+what, depth <= api.MaxDepth, []api.Term{tm(api.Pi, con("Nat"), codomain)}, ap(x(0), value), of)
	}
}

// P11.1: the values of Lets are not typed in each place anew.
func TestManyLets(t *testing.T) {
	// Each Let uses the value, with the Lets in it, twice.
	nested := con("Nat.zero")
	below := con("Nat.zero")
	inFunctions := the("(lam Nat #0)")
	for range 60 {
		nested = tm(api.Let, con("Nat"), nested, the("{plus #0 #0}"))
		below = tm(api.Let, con("Nat"), below, the("{plus #0 {(lam A #1) a}}"))
		inFunctions = tm(api.Lam, con("Nat"), tm(api.Let, the("(pi Nat Nat)"), inFunctions, the("{plus {#0 #1} {(lam A {#1 #2}) a}}")))
	}
	wantType(t, "many Lets", env, nil, nested, con("Nat"))
	wantType(t, "many Lets below binders", env, nil, below, con("Nat"))
	wantType(t, "many Lets in functions", env, nil, inFunctions, the("(pi Nat Nat)"))
	if err := typing.Check(env, nil, nested, con("A")); err != api.ErrType {
		t.Errorf("Check of many Lets: error %d", err)
	}
	// What is known of a value holds below binders, too, and only for the value.
	ctx := read("Nat", "{F #0}", "Nat")
	wantType(t, "a value below binders", env, ctx, the("(let {F #2} #1 (lam Nat (lam Nat #2)))"), the("(pi Nat (pi Nat {F #4}))"))
	wantType(t, "what looks like the value", env, ctx, the("(let {F #2} #1 (lam Nat (lam {F #0} #0)))"), the("(pi Nat (pi {F #0} {F #1}))"))
	wantType(t, "what looks like the value", env, ctx, the("(let {F #2} #1 (lam Nat (lam Nat #1)))"), the("(pi Nat (pi Nat Nat))"))
	wantType(t, "a value in a value", env, ctx, the("(let {F #2} #1 (let (pi Nat {F #4}) (lam Nat #1) {#0 two}))"), the("{F #2}"))
	wantType(t, "a value with binders", env, ctx, the("(let (pi Nat {F #3}) (lam Nat #2) (lam Nat {#1 #0}))"), the("(pi Nat {F #3})"))
}

// P11.1: variables may have a greater Index below binders than outside, where that of the outermost one is 65535.
func TestGreatVariables(t *testing.T) {
	last := 65535
	ctx := slices.Repeat([]api.Term{con("Nat")}, last+1)
	ctx[0] = the("(sort [0])")
	lam := func(n int, body api.Term) api.Term {
		for range n {
			body = tm(api.Lam, con("Nat"), body)
		}
		return body
	}
	zero := the("0")
	wantType(t, "the last variable", env, ctx, x(last), the("(sort [0])"))
	wantType(t, "a function type", env, ctx, tm(api.Pi, con("Nat"), tm(api.Pi, x(last+1), x(last+2))), the("(sort [0])"))
	want := tm(api.Pi, con("Nat"), tm(api.Pi, x(last+1), con("Nat")))
	wantType(t, "a function", env, ctx, lam(1, tm(api.Lam, x(last+1), zero)), want)
	wantType(t, "an application", env, ctx, ap(lam(2, tm(api.Lam, x(last+2), zero)), zero), want)
	wantType(t, "a Let", env, ctx, tm(api.Let, con("Nat"), zero, lam(1, tm(api.Lam, x(last+2), zero))), want)
	wantType(t, "a variable below binders", env, ctx, lam(3, x(last)), tm(api.Pi, con("Nat"), tm(api.Pi, con("Nat"), tm(api.Pi, con("Nat"), con("Nat")))))
	if at, err := typing.Args(env, ctx, []api.Term{con("Nat"), tm(api.Pi, con("Nat"), tm(api.Pi, x(last+2), con("Nat")))}, []api.Term{zero, lam(1, tm(api.Lam, x(last+1), zero))}); at != 0 || err != api.OK {
		t.Errorf("Args: got %d, error %d", at, err)
	}
	// A type that telescope.Lookup refuses
	ctx[last] = x(last - 1)
	wantType(t, "the type of the first variable", env, ctx, x(0), x(last))
	for _, from := range []api.Term{lam(1, x(1)), tm(api.Lam, x(last), x(0))} {
		_, want := telescope.Lookup(append(ctx, x(last)), 0)
		if got, err := typing.Infer(env, ctx, from); err != want || err == api.OK || !isZero(got) {
			t.Errorf("Infer(%s): got %s, error %d, want %d", show(from), show(got), err, want)
		}
	}
}

// Results share no memory with arguments or within themselves, and arguments stay as they are.
func TestMemory(t *testing.T) {
	spare := append(read("Nat", "{(const Eq [max(1, u0)]) (sort [u0]) Nat Nat}", "(sigma (sort [u0]) (pi #0 (sort [u1])))"), the("none"))
	ctx := spare[:3]
	envText := fmt.Sprint(env)
	for _, source := range []string{"#1", "(fst #0)", "(snd #0)", "(lam (sort [u0]) (lam #0 #0))", "(const Eq.rec [u0] [u1])", "(sort [max(u0, u1)])", "(pi (sort [u0]) (sort [u1]))", "(pair (sigma (sort [u0]) Nat) Nat 0)", "(fst (pair (sigma (sort [u0]) Nat) Nat 0))", "(let (sort [u0 + 1]) (sort [u0]) (lam #0 {(const id [u0 + 1]) #1 #0}))", "{(const id [u1 + 1]) (sort [u1])}", "(let (sigma (sort [u0]) (pi #0 (sort [u1]))) #0 (pair (sigma (sort [u2]) Nat) Nat {(lam (sigma (sort [u0]) (pi #0 (sort [u1]))) 0) #0}))"} {
		from := the(source)
		find := func() []api.Term {
			of, err := typing.Infer(env, ctx, from)
			sort, _ := typing.SortOf(env, ctx, from)
			if err != api.OK {
				t.Errorf("Infer(%s): error %d", source, err)
			}
			typing.Check(env, ctx, from, of)
			typing.Context(env, ctx)
			typing.Args(env, ctx, ctx[:1], []api.Term{from})
			return []api.Term{of, sort}
		}
		results := find()
		texts := show(results[0]) + show(results[1])
		if !sample.Fresh(append(results, find()...), slices.Concat(sample.Terms(env), spare, []api.Term{from})) {
			t.Errorf("the results for %s share memory", source)
		}
		sample.Spoil(&results[0])
		sample.Spoil(&results[1])
		again := find()
		if got := show(again[0]) + show(again[1]); got != texts || show(from) != show(the(source)) {
			t.Errorf("the results for %s changed from %s to %s", source, texts, got)
		}
	}
	if fmt.Sprint(env) != envText || show(spare[3]) != "none" {
		t.Error("the environment or the context was modified")
	}
}

// The functions return for arguments that they need not accept.
func TestOtherArguments(t *testing.T) {
	deep, double, long := x(0), the("prop"), x(0)
	for range 1 << 15 {
		deep, long = tm(api.Pi, x(0), deep), ap(long, x(0))
	}
	for range 60 {
		double = tm(api.Pi, double, double)
	}
	huge := api.Level{Const: -7, Vars: []api.LevelVar{{Index: math.MinInt}, {Index: math.MaxInt}}}
	odd := []api.Term{deep, double, long, x(-1), x(math.MaxInt), x(math.MinInt), x(7), tm(api.App), tm(api.App, x(0)), ap(tm(api.App), x(0)), tm(api.Lam), tm(api.Lam, x(0)), tm(api.Let), tm(api.Let, x(0), x(0)), tm(api.Pi), tm(api.Pi, x(0)), tm(api.Sigma), tm(api.Pair), tm(api.Pair, tm(api.Sigma, x(0), x(0))), tm(api.Fst), tm(api.Snd),
		tm(api.Sort), universe(huge), con(""), con("two", huge), con("Nat.rec", huge), con("plus", huge), con("id", huge), tm(api.Meta), tm(-1, x(0)), tm(99), tm(api.Prop, x(0)), tm(api.Var, x(0))}
	envs := append(sample.WrongEnvs(), env, []api.Decl{{Kind: api.DeclAxiom, Name: "two", Type: deep}, {Kind: api.DeclAxiom, Name: "plus", Type: double}})
	for i, env := range envs {
		for j, a := range odd {
			b := odd[(i+j)%len(odd)]
			for _, from := range []api.Term{a, ap(a, b), ap(con("two"), a), ap(con("plus"), a, b), ap(x(0), a), tm(api.Lam, a, b), tm(api.Lam, con("Nat"), a), tm(api.Pi, a, b), tm(api.Sigma, a, b), tm(api.Pair, a, b, b), tm(api.Fst, a), tm(api.Let, a, b, a), tm(api.Let, con("Nat"), con("two"), a)} {
				ctx := [][]api.Term{nil, {a}, {a, b, tm(api.Pi, a, b)}, {con("Nat"), tm(api.Sigma, a, x(0)), tm(api.Pi, b, x(1))}}[(i+j/4)%4]
				typing.Infer(env, ctx, from)
				typing.Check(env, ctx, from, a)
				typing.Check(env, ctx, x(0), from)
				typing.SortOf(env, ctx, from)
				typing.Context(env, append(slices.Clip(ctx), from))
				typing.Args(env, ctx, []api.Term{a, from}, []api.Term{x(0), b})
			}
		}
	}
	wantType(t, "after all these", env, nil, con("two"), con("Nat"))
}
