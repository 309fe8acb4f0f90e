package sorts_test

import (
	"fmt"
	"slices"
	"strings"
	"testing"

	"euclid/api"
	"euclid/sample"
	"euclid/signature"
	"euclid/sorts"
)

var tm, x, the, show = sample.Node, sample.Var, sample.Parse, sample.Show

var env = sample.Typed()

// declared returns a family: its name, level parameters, Fixed and type, and the types of its constructors, which are called c0, c1, ..
func declared(name string, params, fixed int, of string, ctors ...string) api.Decl {
	d := api.Decl{Kind: api.DeclFamily, Name: name, Params: params, Fixed: fixed, Type: the(of)}
	for i, c := range ctors {
		d.Ctors = append(d.Ctors, api.Ctor{Name: fmt.Sprint("c", i), Type: the(c)})
	}
	return d
}

// in returns the family D in a sort, with two level parameters, without parameters and indices. In the types of its constructors $ is the family.
func in(sort string, ctors ...string) api.Decl {
	return declared("D", 2, 0, sort, itself("(const D [u0] [u1])", ctors)...)
}

// at returns the same with one index in Nat.
func at(sort string, ctors ...string) api.Decl {
	return declared("D", 2, 0, "(pi Nat "+sort+")", itself("(const D [u0] [u1])", ctors)...)
}

func itself(name string, ctors []string) []string {
	var result []string
	for _, c := range ctors {
		result = append(result, strings.ReplaceAll(c, "$", name))
	}
	return result
}

func wantCheck(t *testing.T, d api.Decl, ctor, field int, want api.Errno) {
	t.Helper()
	if c, f, err := sorts.Check(env, d); c != ctor || f != field || err != want {
		t.Errorf("Check of %s: got %d, %d, error %d, want %d, %d, error %d", types(d), c, f, err, ctor, field, want)
	}
}

func wantLarge(t *testing.T, d api.Decl, large bool, want api.Errno) {
	t.Helper()
	if got, err := sorts.Large(env, d); got != large || err != want {
		t.Errorf("Large of %s: got %v, error %d, want %v, error %d", types(d), got, err, large, want)
	}
}

// types returns the types of a declaration as text.
func types(d api.Decl) string {
	parts := []string{show(d.Type)}
	for _, c := range d.Ctors {
		parts = append(parts, show(c.Type))
	}
	return d.Name + ": " + strings.Join(parts, " | ")
}

const (
	list     = "(pi (sort [u0]) (sort [u0]))"
	listNil  = "(pi (sort [u0]) {(const List [u0]) #0})"
	listCons = "(pi (sort [u0]) (pi #0 (pi {(const List [u0]) #1} {(const List [u0]) #2})))"
	wtype    = "(pi (sort [u0]) (pi (pi #0 (sort [u1])) "
	sup      = "(pi (sort [u0]) (pi (pi #0 (sort [u1])) (pi #1 (pi (pi {#1 #0} {(const W [u0] [u1]) #3 #2}) {(const W [u0] [u1]) #3 #2}))))"
)

// P14.1: families that satisfy the constraints
func TestSatisfied(t *testing.T) {
	if at, err := signature.Check(env); err != api.OK {
		t.Fatalf("the environment is not in order: error %d at %d", err, at)
	}
	for _, d := range []api.Decl{
		// The example of the chapter, in higher universes, too
		declared("List", 1, 1, list, listNil, listCons),
		declared("List", 1, 1, "(pi (sort [u0]) (sort [u0 + 3]))", listNil, listCons), declared("List", 1, 1, "(pi (sort [u0]) (sort [max(7, u0)]))", listNil, listCons),
		declared("W", 2, 2, wtype+"(sort [max(u0, u1)])))", sup), declared("W", 2, 2, wtype+"(sort [max(u0 + 1, u1)])))", sup),
		declared("Vector", 1, 1, "(pi (sort [u0]) (pi Nat (sort [u0])))", "(pi (sort [u0]) {(const Vector [u0]) #0 Nat.zero})", "(pi (sort [u0]) (pi Nat (pi #1 (pi {(const Vector [u0]) #2 #1} {(const Vector [u0]) #3 {Nat.succ #2}}))))"),
		in("(sort [0])"), in("(sort [0])", "$", "(pi Nat $)", "(pi $ (pi A (pi (pi Nat $) $)))"),
		// A proposition, and Prop itself
		in("(sort [0])", "(pi P $)", "(pi prop (pi #0 $))", "(pi (pi (sort [9]) P) $)", "(pi {(const Eq [2]) (sort [1]) (sort [0]) (sort [0])} $)"), in("(sort [u0])", "(pi P $)", "(pi (pi (sort [u1]) P) $)"),
		// Prop has the sort Sort 0, and Sort l the sort Sort (l + 1).
		in("(sort [0])", "(pi prop $)"), in("(sort [1])", "(pi (sort [0]) (pi #0 $))"), in("(sort [u0 + 1])", "(pi (sort [u0]) $)", "(pi prop (pi Nat $))"), in("(sort [u0])", "(pi Nat $)"), in("(sort [max(3, u1)])", "(pi (sort [2]) $)"), in("(sort [100])", "(pi (sort [99]) $)"), in("(sort [u0 + 60])", "(pi (const high [0]) (pi (const high [u0]) $))"),
	} {
		wantCheck(t, d, 0, 0, api.OK)
	}
	// A family in Prop satisfies them with any fields.
	for _, field := range []string{"(sort [100])", "(sort [0])", "Nat", "none", "0", "#9", "{Nat Nat}", "?0"} {
		wantCheck(t, in("prop", "(pi Nat (pi "+field+" $))", "(pi "+field+" $)"), 0, 0, api.OK)
	}
}

// P14.1: the first field that is not allowed, or has no sort
func TestViolated(t *testing.T) {
	for _, c := range []struct {
		d           api.Decl
		ctor, field int
		err         api.Errno
	}{
		// The example of the chapter
		{in("(sort [0])", "(pi (sort [0]) $)"), 0, 0, api.ErrLevel},
		{in("(sort [0])", "$", "(pi Nat (pi P (pi (const high [0]) (pi (sort [0]) $))))", "(pi none $)"), 1, 2, api.ErrLevel},
		{declared("List", 1, 1, "(pi (sort [u0]) (sort [0]))", listNil, listCons), 1, 0, api.ErrLevel}, {declared("List", 1, 1, "(pi (sort [u0 + 1]) (sort [u0]))", "(pi (sort [u0 + 1]) (pi #0 {(const List [u0]) #1}))"), 0, 0, api.ErrLevel},
		{declared("W", 2, 2, wtype+"(sort [u0])))", sup), 0, 1, api.ErrLevel}, {declared("W", 2, 2, wtype+"(sort [u1])))", sup), 0, 0, api.ErrLevel},
		{in("(sort [u0])", "(pi (sort [u0]) $)"), 0, 0, api.ErrLevel}, {in("(sort [u0 + 1])", "(pi Nat (pi (sort [u1]) $))"), 0, 1, api.ErrLevel}, {in("(sort [max(u0, u1)])", "(pi (sort [0]) $)"), 0, 0, api.ErrLevel}, {in("(sort [5])", "(pi (sort [4]) (pi (sort [5]) $))"), 0, 1, api.ErrLevel}, {in("(sort [max(u0, u1)])", "(pi (const high [0]) $)"), 0, 0, api.ErrLevel},
		// The sort of the type as it stands counts, not that of what it reduces to; and a Pi into a proposition is one, a Sigma is not.
		{in("(sort [0])", "(pi {(const id [1]) (sort [0]) Nat} (pi {(const id [2]) (sort [1]) Nat} $))"), 0, 1, api.ErrLevel}, {in("(sort [0])", "(pi (sigma P P) (pi (sigma (sort [0]) P) $))"), 0, 1, api.ErrLevel}, {in("(sort [0])", "(pi (pi (sort [0]) P) (pi (pi (sort [0]) Nat) $))"), 0, 1, api.ErrLevel},
		// The family has the sort of its type, in the environment with it.
		{declared("D", 1, 1, "(pi (sort [u0]) (sort [3]))", "(pi (sort [u0]) (pi (pi (sort [2]) {(const D [u0]) #1}) (pi (pi (sort [3]) {(const D [u0]) #2}) {(const D [u0]) #2})))"), 0, 1, api.ErrLevel},
		{declared("D", 1, 1, "(pi (sort [u0]) (sort [3]))", "(pi (sort [u0]) (pi {(const D [0]) Nat} (pi {(const D [u0]) (sort [u0])} {(const D [u0]) #2})))"), 0, 1, api.ErrType},
		{declared("D", 1, 1, "(pi (sort [u0]) (sort [3]))", "(pi (sort [u0]) (pi {D #0} {(const D [u0]) #1}))"), 0, 0, api.ErrLevel}, {declared("D", 1, 1, "(pi (sort [u0]) (sort [3]))", "(pi (sort [u0]) (pi (const D [u0]) {(const D [u0]) #1}))"), 0, 0, api.ErrSort},
		// Fields without a sort; constructors and the recursor are not declared there.
		{in("(sort [9])", "(pi 0 $)"), 0, 0, api.ErrSort}, {in("(sort [9])", "(pi Nat (pi #0 $))"), 0, 1, api.ErrSort}, {in("(sort [9])", "(pi (sort [0]) (pi #0 (pi #0 $)))"), 0, 2, api.ErrSort}, {in("(sort [9])", "(pi #0 $)"), 0, 0, api.ErrScope}, {in("(sort [9])", "(pi prop (pi #0 (pi #1 (pi #3 $))))"), 0, 3, api.ErrScope}, {in("(sort [9])", "(pi none $)"), 0, 0, api.ErrNone}, {in("(sort [9])", "$", "(pi {(const Eq [0]) Nat c0 c0} $)"), 1, 0, api.ErrNone}, {in("(sort [9])", "(pi D.rec $)"), 0, 0, api.ErrNone},
		{in("(sort [9])", "(pi {Nat Nat} $)"), 0, 0, api.ErrFun}, {in("(sort [9])", "(pi (fst 0) $)"), 0, 0, api.ErrPair}, {in("(sort [9])", "(pi {F p} $)"), 0, 0, api.ErrType}, {in("(sort [9])", "(pi ?0 $)"), 0, 0, api.ErrMeta}, {in("(sort [100])", "(pi (sort [100]) $)"), 0, 0, api.ErrLevel}, {in("(sort [9])", "(pi (const Nat [0]) $)"), 0, 0, api.ErrLevel},
		{in("(sort [9])", "(pi {Spin 0} (pi #0 $))"), 0, 1, api.ErrSteps},
		// The first one of several
		{in("(sort [0])", "(pi (sort [0]) (pi none $))"), 0, 0, api.ErrLevel}, {in("(sort [0])", "(pi none (pi (sort [0]) $))"), 0, 0, api.ErrNone}, {in("(sort [0])", "(pi P (pi 0 $))", "(pi none $)"), 0, 1, api.ErrSort}, {in("(sort [0])", "(pi Nat (pi Nat $))", "(pi none $)", "(pi (sort [0]) $)"), 1, 0, api.ErrNone},
	} {
		wantCheck(t, c.d, c.ctor, c.field, c.err)
	}
}

// P14.1: metavariables of levels
func TestLevelMetas(t *testing.T) {
	wantCheck(t, in("(sort [?0 + 1])", "(pi (sort [?0]) $)"), 0, 0, api.OK)
	wantCheck(t, in("(sort [max(u0, ?1)])", "(pi {(const id [?1 + 1]) (sort [?1]) Nat} (pi (sort [?1]) $))"), 0, 1, api.ErrLevel)
}

// P14.2: families that are large, and others
func TestLarge(t *testing.T) {
	eq := "(pi (sort [u0]) (pi #0 (pi #1 prop)))"
	refl := "(pi (sort [u0]) (pi #0 {(const Equal [u0]) #1 #0 #0}))"
	acc := "(pi (sort [u0]) (pi (pi #0 (pi #1 prop)) (pi #1 (pi (pi #2 (pi {#2 #0 #1} {(const Acc [u0]) #4 #3 #1})) {(const Acc [u0]) #3 #2 #1}))))"
	two := "(pi prop (pi prop prop))"
	for _, c := range []struct {
		d     api.Decl
		large bool
	}{
		// The examples of the chapter
		{declared("Equal", 1, 2, eq, refl), true},
		{declared("Or", 0, 2, two, "(pi prop (pi prop (pi #1 {Or #2 #1})))", "(pi prop (pi prop (pi #0 {Or #2 #1})))"), false},
		{declared("And", 0, 2, two, "(pi prop (pi prop (pi #1 (pi #1 {And #3 #2}))))"), true},
		{declared("Some", 0, 0, "prop", "(pi Nat Some)"), false},
		// A Sort; what the fields are does not matter.
		{in("(sort [0])"), true}, {in("(sort [u0])", "$", "(pi Nat $)"), true}, {in("(sort [0])", "(pi none (pi (sort [9]) $))"), true},
		{in("prop"), true}, {in("prop", "$"), true}, {at("prop", "{$ 0}"), true}, {in("prop", "$", "$"), false}, {in("prop", "$", "(pi none $)"), false}, {in("prop", "(pi none $)", "$", "$"), false},
		// Equal with other numbers of parameters: the fields are index terms.
		{declared("Equal", 1, 1, eq, refl), true}, {declared("Equal", 1, 0, eq, refl), true},
		{declared("Acc", 1, 2, "(pi (sort [u0]) (pi (pi #0 (pi #1 prop)) (pi #1 prop)))", acc), true},
		{declared("Ex", 1, 2, "(pi (sort [u0]) (pi (pi #0 prop) prop))", "(pi (sort [u0]) (pi (pi #0 prop) (pi #1 (pi {#1 #0} {(const Ex [u0]) #3 #2}))))"), false},
		// A proposition, recursive ones and functions with such results among them; but not a pair of propositions
		{in("prop", "(pi P (pi $ (pi (pi (sort [u0]) $) $)))"), true}, {in("prop", "(pi (pi Nat (pi A P)) (pi {(const Eq [0]) Nat 0 0} $))"), true}, {in("prop", "(pi P (pi (sigma P P) $))"), false}, {in("prop", "(pi prop $)"), false}, {in("prop", "(pi (sort [u0]) $)"), false}, {in("prop", "(pi {(const id [0]) prop P} $)"), true}, {in("prop", "(pi {(const id [1]) (sort [0]) A} $)"), false}, {in("prop", "(pi (const high [0]) $)"), false},
		// The variable of the field itself, in any of the index terms
		{at("prop", "(pi Nat {$ #0})"), true}, {at("prop", "(pi Nat (pi P {$ #1}))"), true}, {at("prop", "(pi A (pi Nat {$ #0}))"), false}, {at("prop", "(pi Nat (pi Nat {$ #1}))"), false}, {at("prop", "(pi Nat (pi Nat {$ #0}))"), false}, {declared("T", 0, 0, two, "(pi prop (pi prop {T #0 #1}))"), true}, {declared("T", 0, 0, two, "(pi prop (pi prop {T #0 #0}))"), false}, {declared("T", 0, 0, two, "(pi prop (pi #0 {T P #1}))"), true},
		// A term in which it occurs, or that reduces to it, is another one, and so is the variable of a parameter.
		{at("prop", "(pi Nat {$ {Nat.succ #0}})"), false}, {at("prop", "(pi Nat {$ {plus 0 #0}})"), false}, {at("prop", "(pi Nat {$ {(lam Nat #0) #0}})"), false}, {at("prop", "(pi Nat {$ (let Nat #0 #0)})"), false}, {at("prop", "(pi (sigma Nat Nat) {$ (fst #0)})"), false}, {at("prop", "(pi (pi Nat Nat) {$ (lam Nat {#1 #0})})"), false},
		{declared("T", 0, 1, "(pi Nat (pi Nat prop))", "(pi Nat (pi Nat {T #1 #1}))"), false}, {declared("T", 0, 1, "(pi Nat (pi Nat prop))", "(pi Nat (pi Nat {T #1 #0}))"), true}, {declared("T", 0, 1, "(pi Nat (pi Nat prop))", "(pi Nat {T #0 #0})"), true}, {declared("T", 0, 2, "(pi Nat (pi Nat prop))", "(pi Nat (pi Nat (pi Nat {T #2 #1})))"), false},
	} {
		wantLarge(t, c.d, c.large, api.OK)
	}
}

// P14.2: fields without a sort
func TestLargeErrors(t *testing.T) {
	for _, c := range []struct {
		d   api.Decl
		err api.Errno
	}{
		{in("prop", "(pi none $)"), api.ErrNone}, {in("prop", "(pi P (pi 0 $))"), api.ErrSort}, {in("prop", "(pi #0 $)"), api.ErrScope}, {in("prop", "(pi {Nat Nat} $)"), api.ErrFun}, {in("prop", "(pi {F p} $)"), api.ErrType}, {in("prop", "(pi (fst 0) $)"), api.ErrPair}, {in("prop", "(pi ?0 $)"), api.ErrMeta}, {in("prop", "(pi (sort [100]) $)"), api.ErrLevel}, {in("prop", "(pi D $)"), api.ErrLevel}, {in("prop", "(pi c0 $)"), api.ErrNone}, {in("prop", "(pi D.rec $)"), api.ErrNone},
		{at("prop", "(pi {Spin 0} (pi #0 {$ #1}))"), api.ErrSteps}, {at("prop", "(pi $ {$ 0})"), api.ErrSort},
		// The first one
		{in("prop", "(pi none (pi 0 $))"), api.ErrNone}, {in("prop", "(pi P (pi 0 (pi none $)))"), api.ErrSort}, {in("prop", "(pi none (pi Nat $))"), api.ErrNone},
		// An index term itself is not asked, but the others are.
		{at("prop", "(pi none (pi 0 {$ #1}))"), api.ErrSort}, {at("prop", "(pi none (pi 0 {$ #0}))"), api.ErrNone}, {at("prop", "(pi none {$ {Nat.succ #0}})"), api.ErrNone}, {at("prop", "(pi Nat (pi #0 {$ #1}))"), api.ErrSort},
	} {
		wantLarge(t, c.d, false, c.err)
	}
	wantLarge(t, at("prop", "(pi none {$ #0})"), true, api.OK)
	wantLarge(t, at("prop", "(pi P (pi #9 (pi P {$ #1})))"), true, api.OK)
	wantLarge(t, declared("T", 0, 0, "(pi Nat (pi Nat prop))", "(pi ?0 (pi (sort [100]) {T #0 #1}))"), true, api.OK)
	// A field that makes the family not large ends the search.
	wantLarge(t, in("prop", "(pi Nat (pi none $))"), false, api.OK)
	wantLarge(t, at("prop", "(pi none (pi P (pi Nat (pi none {$ #3}))))"), false, api.OK)
}

// P14.1, P14.2: the error of family.Analyse comes first.
func TestNoFamilies(t *testing.T) {
	for _, sort := range []string{"prop", "(sort [0])"} {
		bad := "(pi none (pi (sort [7]) $))"
		for _, d := range []api.Decl{in(sort, bad, "Nat"), in(sort, bad, "{$ $}"), at(sort, bad), declared("D", 0, 1, sort), declared("D", 0, -1, sort), declared("D", 0, 0, "{(lam prop "+sort+") 0}"), declared("D", 0, 0, "Nat")} {
			wantCheck(t, d, 0, 0, api.ErrForm)
			wantLarge(t, d, false, api.ErrForm)
			for _, kind := range []int{api.DeclAxiom, api.DeclDef, api.DeclTheorem, api.DeclFunctions, -1, 5} {
				d.Kind = kind
				wantCheck(t, d, 0, 0, api.ErrArg)
				wantLarge(t, d, false, api.ErrArg)
			}
		}
	}
}

// P14.1, P14.2: environments with as many declarations as there may be, and with none
func TestEnvironments(t *testing.T) {
	full := slices.Clone(env)
	for i := len(full); i < api.MaxDecls; i++ {
		full = append(full, api.Decl{Kind: api.DeclAxiom, Name: fmt.Sprint("x", i), Type: the("(sort [4])")})
	}
	if at, err := signature.Check(full); err != api.OK {
		t.Fatalf("the environment is not in order: error %d at %d", err, at)
	}
	d := in("(sort [4])", "(pi $ (pi x999 $))", "(pi x999 (pi (sort [4]) $))")
	if ctor, field, err := sorts.Check(full, d); ctor != 1 || field != 1 || err != api.ErrLevel {
		t.Errorf("Check: got %d, %d, error %d", ctor, field, err)
	}
	d = in("prop", "(pi $ (pi x999 $))")
	if large, err := sorts.Large(full, d); large || err != api.OK {
		t.Errorf("Large: got %v, error %d", large, err)
	}
	d = in("prop", "(pi $ (pi Nat $))")
	if large, err := sorts.Large(nil, d); large || err != api.ErrNone {
		t.Errorf("Large: got %v, error %d", large, err)
	}
	d = in("(sort [1])", "(pi $ (pi (sort [0]) (pi #0 $)))", "(pi $ (pi Nat $))")
	if ctor, field, err := sorts.Check(nil, d); ctor != 1 || field != 1 || err != api.ErrNone {
		t.Errorf("Check: got %d, %d, error %d", ctor, field, err)
	}
}

// Arguments stay as they are, with what is behind their ends.
func TestMemory(t *testing.T) {
	behind := api.Decl{Kind: api.DeclAxiom, Name: "behind", Type: the("prop")}
	whole := append(slices.Clone(env), behind, behind)
	d := declared("List", 1, 1, list, listNil, listCons, "(pi (sort [u0]) (pi (sort [u0]) {(const List [u0]) #1}))")
	p := in("prop", "(pi $ (pi Nat $))")
	before := fmt.Sprint(whole, d, p)
	for range 2 {
		part := whole[:len(env)]
		if ctor, field, err := sorts.Check(part, d); ctor != 2 || field != 0 || err != api.ErrLevel {
			t.Errorf("Check: got %d, %d, error %d", ctor, field, err)
		}
		if large, err := sorts.Large(part, p); large || err != api.OK {
			t.Errorf("Large: got %v, error %d", large, err)
		}
	}
	if fmt.Sprint(whole, d, p) != before {
		t.Error("an argument was modified")
	}
}

// The functions return for arguments that they need not accept.
func TestOtherArguments(t *testing.T) {
	deep, double, long := x(0), the("prop"), the("D")
	for range 1 << 12 {
		deep, long = tm(api.Pi, x(0), deep), tm(api.App, long, x(0))
	}
	for range 60 {
		double = tm(api.Pi, double, double)
	}
	huge := api.Level{Const: -7, Vars: []api.LevelVar{{Index: -1 << 63}, {Index: 1<<63 - 1}}}
	odd := []api.Term{deep, double, long, x(-1), x(1<<63 - 1), tm(api.App), tm(api.Pi), tm(api.Pi, x(0)), tm(api.Sort), {Kind: api.Sort, Levels: []api.Level{huge}}, {Kind: api.Sort, Levels: []api.Level{{}, {}}}, sample.Const("D", huge), tm(-1), tm(99), tm(api.Prop, x(0)), tm(api.Var, x(0))}
	envs := append(sample.WrongEnvs(), env, []api.Decl{{Kind: api.DeclAxiom, Name: "D", Type: deep}}, []api.Decl{in("prop", "$")})
	for i, a := range odd {
		b := odd[(i+3)%len(odd)]
		for _, fixed := range []int{0, 1, -1, 1<<63 - 1} {
			for _, of := range []api.Term{a, tm(api.Pi, b, a), tm(api.Pi, a, the("prop")), tm(api.Pi, a, the("(sort [3])"))} {
				d := api.Decl{Kind: api.DeclFamily, Name: "D", Fixed: fixed, Params: fixed * (i % 2), Type: of, Ctors: []api.Ctor{{Type: tm(api.Pi, a, tm(api.Pi, b, tm(api.App, the("D"), x(1))))}}}
				for _, env := range [][]api.Decl{env, envs[i%len(envs)]} {
					sorts.Check(env, d)
					sorts.Large(env, d)
				}
			}
		}
	}
	// Constructors whose fields are such terms
	for _, field := range odd {
		for _, sort := range []string{"prop", "(sort [3])"} {
			d := declared("D", 0, 0, sort)
			d.Ctors = []api.Ctor{{Type: tm(api.Pi, field, the("D"))}}
			for _, env := range envs {
				sorts.Check(env, d)
				sorts.Large(env, d)
			}
		}
	}
}
