package typing_test

import (
	"slices"
	"testing"

	"euclid/api"
	"euclid/sample"
	"euclid/signature"
	"euclid/spines"
	"euclid/term"
	"euclid/typing"
)

var tm, x, con, ap, the, show, numeral = sample.Node, sample.Var, sample.Const, spines.Apply, sample.Parse, sample.Show, sample.Numeral

// env is the environment of the tests, none of which changes it.
var env = sample.Typed()

// The environment is in order, and its terms have types.
func TestEnvironmentIsTyped(t *testing.T) {
	if at, err := signature.Check(env); err != api.OK {
		t.Fatalf("Check: error %d at %d", err, at)
	}
	for _, d := range env {
		for _, name := range signature.Names(d) {
			entry, _ := signature.Find(env, name)
			if _, err := typing.SortOf(env, nil, entry.Type); err != api.OK {
				t.Errorf("%s has no sort: error %d", name, err)
			}
		}
		if d.Kind == api.DeclDef || d.Kind == api.DeclTheorem {
			if err := typing.Check(env, nil, d.Value, d.Type); err != api.OK {
				t.Errorf("%s has no value: error %d", d.Name, err)
			}
		}
		for i, rule := range d.Rec.Rules {
			if _, err := typing.Infer(env, nil, rule); err != api.OK {
				t.Errorf("rule %d of %s has no type: error %d", i, d.Name, err)
			}
		}
	}
}

// context is the context of the tables: A type and an element of it, a number, a proof, two functions, a pair, and more.
var context = read(
	"(sort [0])",   // #9, a type
	"#0",           // #8, an element of it
	"Nat",          // #7, a number
	"P",            // #6, a proof
	"(pi Nat Nat)", // #5, a function
	"(pi (sort [0]) (pi #0 {(const Eq [0]) #1 #0 #0}))", // #4, a proof for all types
	"(sigma (sort [0]) #0)",                             // #3, a type with an element
	"{(lam (sort [1]) (pi #0 (sort [0]))) prop}",        // #2, a family of types, whose own type is reduced
	"{(const Both [0] [0]) Nat {F two}}",                // #1, a pair, whose type is reduced
	"{(const id [2]) (sort [1]) (sort [0])}",            // #0, a type, whose sort is reduced
)

// P11.1: the rules
func TestInfer(t *testing.T) {
	for _, c := range [][2]string{
		// Variables, sorts and constants
		{"#0", "{(const id [2]) (sort [1]) (sort [0])}"}, {"#1", "{(const Both [0] [0]) Nat {F two}}"}, {"#8", "#9"}, {"#9", "(sort [0])"}, {"#4", "(pi (sort [0]) (pi #0 {(const Eq [0]) #1 #0 #0}))"},
		{"prop", "(sort [0])"}, {"(sort [0])", "(sort [1])"}, {"(sort [99])", "(sort [100])"}, {"(sort [max(2, u0 + 1)])", "(sort [max(3, u0 + 2)])"}, {"(sort [?3])", "(sort [?3 + 1])"},
		{"Nat", "(sort [0])"}, {"Nat.succ", "(pi Nat Nat)"}, {"two", "Nat"}, {"same", "{(const Eq [0]) Nat two {plus two 0}}"}, {"plus", "(pi Nat (pi Nat Nat))"}, {"p", "P"}, {"P", "prop"},
		{"(const id [3])", "(pi (sort [3]) (pi #0 #1))"}, {"(const Pred [u4 + 1])", "(pi (sort [u4 + 1]) (sort [u4 + 1]))"}, {"(const Eq [?7])", "(pi (sort [?7]) (pi #0 (pi #1 prop)))"}, {"(const False.rec [4])", "(pi (pi False (sort [4])) (pi False {#1 #0}))"},
		// Applications: types are not reduced, and neither are arguments
		{"{Nat.succ #7}", "Nat"}, {"{#5 {#5 #7}}", "Nat"}, {"{f {plus 1 #7}}", "{F {plus 1 #7}}"}, {"{(const id [0]) #9 #8}", "#9"}, {"{(const id [0]) {(lam (sort [0]) #0) Nat} #7}", "{(lam (sort [0]) #0) Nat}"},
		{"{#4 #9 #8}", "{(const Eq [0]) #9 #8 #8}"}, {"{#4 Nat}", "(pi Nat {(const Eq [0]) Nat #0 #0})"}, {"{#4 P p}", "{(const Eq [0]) P p p}"}, {"{#2 P}", "(sort [0])"},
		{"{(const Eq.refl [1]) (sort [0]) Nat}", "{(const Eq [1]) (sort [0]) Nat Nat}"}, {"{(const Eq.refl [1]) (sort [0]) P}", "{(const Eq [1]) (sort [0]) P P}"}, {"{(const Vec.nil [0]) #9}", "{(const Vec [0]) #9 Nat.zero}"}, {"{(const Vec.cons [0]) #9 0 #8}", "(pi {(const Vec [0]) #9 0} {(const Vec [0]) #10 1})"},
		{"{(lam (sort [2]) (lam #0 #0)) (sort [1]) P}", "(sort [1])"},
		// Functions
		{"(lam Nat #0)", "(pi Nat Nat)"}, {"(lam #9 #0)", "(pi #9 #10)"}, {"(lam (sort [u0]) (lam #0 #0))", "(pi (sort [u0]) (pi #0 #1))"}, {"(lam Nat #9)", "(pi Nat #10)"}, {"(lam {(const id [1]) (sort [0]) Nat} {Nat.succ #0})", "(pi {(const id [1]) (sort [0]) Nat} Nat)"},
		{"(lam P prop)", "(pi P (sort [0]))"}, {"(lam (fst #3) (snd #4))", "(pi (fst #3) (fst #4))"}, {"(lam {#2 P} #0)", "(pi {#2 P} {#3 P})"},
		// Types of functions and of pairs
		{"(pi Nat Nat)", "(sort [0])"}, {"(pi Nat prop)", "(sort [0])"}, {"(pi (sort [0]) #0)", "(sort [1])"}, {"(pi (sort [4]) P)", "prop"}, {"(pi (sort [u0]) (sort [u1]))", "(sort [max(u0 + 1, u1 + 1)])"}, {"(pi P Nat)", "(sort [0])"}, {"(pi P P)", "prop"}, {"(pi prop #0)", "prop"}, {"(pi Nat (pi Nat {(const Eq [0]) Nat #0 #1}))", "prop"},
		{"(pi #9 (sort [?2]))", "(sort [?2 + 1])"}, {"(pi P (sort [2]))", "(sort [3])"},
		{"(sigma Nat Nat)", "(sort [0])"}, {"(sigma P P)", "(sort [0])"}, {"(sigma P (sort [0]))", "(sort [1])"}, {"(sigma (sort [u0]) #0)", "(sort [u0 + 1])"}, {"(sigma (sort [1]) P)", "(sort [2])"}, {"(sigma Nat {(const Eq [0]) Nat #0 two})", "(sort [0])"}, {"(sigma (sort [u0]) (sort [u1]))", "(sort [max(u0 + 1, u1 + 1)])"}, {"(sigma Nat (fst #4))", "(sort [0])"},
		// Pairs: the type is that which is written
		{"(pair (sigma (sort [0]) #0) Nat two)", "(sigma (sort [0]) #0)"}, {"(pair {(const Both [0] [0]) Nat {F two}} two {f 2})", "{(const Both [0] [0]) Nat {F two}}"}, {"(pair {Tuple 1} 3 4)", "{Tuple 1}"}, {"(pair (sigma Nat {(const Eq [0]) Nat #0 two}) 2 same)", "(sigma Nat {(const Eq [0]) Nat #0 two})"}, {"(pair (sigma Nat {(const Eq [0]) Nat two {plus #0 0}}) two same)", "(sigma Nat {(const Eq [0]) Nat two {plus #0 0}})"},
		{"(pair (sigma (sort [0]) (sort [1])) P #9)", "(sigma (sort [0]) (sort [1]))"},
		{"(fst #3)", "(sort [0])"}, {"(snd #3)", "(fst #3)"}, {"(fst #1)", "Nat"}, {"(snd #1)", "{F two}"}, {"(lam {Tuple 2} (snd #0))", "(pi {Tuple 2} {Tuple 1})"}, {"(lam {Tuple 2} (fst (snd #0)))", "(pi {Tuple 2} Nat)"}, {"(lam {Tuple 2} (snd (snd #0)))", "(pi {Tuple 2} {Tuple 0})"}, {"(lam #0 #0)", "(pi #0 #1)"}, {"(snd (pair (sigma Nat {F #0}) {plus 1 1} {f 2}))", "{F (fst (pair (sigma Nat {F #0}) {plus 1 1} {f 2}))}"},
		// A Let has the type of its body with the value, not that of the variable.
		{"(let Nat two {Nat.succ #0})", "Nat"}, {"(let Nat 2 {f #0})", "{F 2}"}, {"(let (sort [1]) Nat #0)", "(sort [0])"}, {"(let (sort [0]) Nat (lam #0 #0))", "(pi Nat Nat)"}, {"(let Nat two {(lam {(const Eq [0]) Nat #0 2} 0) {(const Eq.refl [0]) Nat 2}})", "Nat"}, {"(let Nat #7 #3)", "{(lam (sort [1]) (pi #0 (sort [0]))) prop}"},
		{"(let (sort [0]) #9 (let #0 #9 (pair (sigma #1 #2) #0 #0)))", "(sigma #9 #10)"}, {"(let Nat two (lam Nat {f {plus #1 #0}}))", "(pi Nat {F {plus two #0}})"},
	} {
		got, err := typing.Infer(env, context, the(c[0]))
		if want := the(c[1]); err != api.OK || !term.Same(got, want) {
			t.Errorf("Infer(%s): got %s, error %d, want %s", c[0], show(got), err, c[1])
		}
	}
}

// P11.1: the errors of the rules. The first one, from left to right, is the result.
func TestErrors(t *testing.T) {
	for _, c := range []struct {
		source string
		want   api.Errno
	}{
		{"(sort [100])", api.ErrLevel}, {"(sort [max(3, u0 + 100)])", api.ErrLevel},
		{"none", api.ErrNone}, {"(const Nat [0])", api.ErrLevel}, {"id", api.ErrLevel}, {"(const Eq.rec [0])", api.ErrLevel}, {"(const high [41])", api.ErrLevel}, {"(const high [40])", api.OK}, {"(const none [41])", api.ErrNone},
		{"{#7 #7}", api.ErrFun}, {"{Nat 0}", api.ErrFun}, {"{(sort [0]) #9}", api.ErrFun}, {"{#3 #7}", api.ErrFun}, {"{Nat.succ 0 0}", api.ErrFun}, {"{(pi Nat Nat) 0}", api.ErrFun}, {"{#8 #8}", api.ErrFun},
		{"{Nat.succ #8}", api.ErrType}, {"{Nat.succ Nat}", api.ErrType}, {"{#5 #6}", api.ErrType}, {"{(const id [0]) (sort [0])}", api.ErrType}, {"{(const id [0]) #9 #7}", api.ErrType}, {"{#2 Nat}", api.ErrType}, {"{(lam P prop) P}", api.ErrType}, {"{(const Eq.refl [0]) (pi P (sort [0])) (lam P Nat)}", api.ErrType},
		{"(fst #7)", api.ErrPair}, {"(snd #9)", api.ErrPair}, {"(fst #5)", api.ErrPair}, {"(snd (sigma Nat Nat))", api.ErrPair}, {"(pair Nat #7 #7)", api.ErrPair}, {"(pair (pi Nat Nat) #7 #7)", api.ErrPair},
		{"(lam #8 #0)", api.ErrSort}, {"(lam two #0)", api.ErrSort}, {"(pi #8 Nat)", api.ErrSort}, {"(pi Nat #7)", api.ErrSort}, {"(sigma p Nat)", api.ErrSort}, {"(sigma Nat #6)", api.ErrSort}, {"(pair #7 #7 #7)", api.ErrSort}, {"(pair #5 #7 #7)", api.ErrSort}, {"(let #7 #7 #7)", api.ErrSort}, {"(lam (lam Nat Nat) #0)", api.ErrSort},
		{"?0", api.ErrMeta}, {"?70000", api.ErrMeta}, {"{?0 #7}", api.ErrMeta}, {"{Nat.succ ?0}", api.ErrMeta}, {"(lam ?0 #0)", api.ErrMeta}, {"(fst ?0)", api.ErrMeta}, {"(let Nat 0 ?1)", api.ErrMeta},
		// The order
		{"{none ?0}", api.ErrNone}, {"{?0 none}", api.ErrMeta}, {"{Nat none}", api.ErrFun}, {"{Nat.succ {Nat none}}", api.ErrFun}, {"{Nat.succ #8 none}", api.ErrType}, {"{plus none ?0}", api.ErrNone},
		{"(lam none ?0)", api.ErrNone}, {"(lam #8 ?0)", api.ErrSort}, {"(lam Nat ?0)", api.ErrMeta}, {"(pi none ?0)", api.ErrNone}, {"(pi #8 ?0)", api.ErrSort}, {"(pi Nat ?0)", api.ErrMeta}, {"(pi (sort [99]) (sort [100]))", api.ErrLevel}, {"(sigma none ?0)", api.ErrNone}, {"(sigma #8 ?0)", api.ErrSort}, {"(sigma Nat ?0)", api.ErrMeta},
		{"(pair none ?0 #8)", api.ErrNone}, {"(pair #8 none ?0)", api.ErrSort}, {"(pair Nat none ?0)", api.ErrPair}, {"(pair (sigma Nat Nat) none ?0)", api.ErrNone}, {"(pair (sigma Nat Nat) #8 ?0)", api.ErrType}, {"(pair (sigma Nat Nat) #7 ?0)", api.ErrMeta}, {"(pair (sigma Nat Nat) #7 #8)", api.ErrType}, {"(pair (sigma Nat {F #0}) 2 {f 3})", api.ErrType},
		{"(let none ?0 #8)", api.ErrNone}, {"(let #8 none ?0)", api.ErrSort}, {"(let Nat none ?0)", api.ErrNone}, {"(let Nat #8 ?0)", api.ErrType}, {"(let Nat #7 {#0 0})", api.ErrFun}, {"(let Nat Nat 0)", api.ErrType}, {"(let Nat 3 {(lam {(const Eq [0]) Nat #0 2} 0) {(const Eq.refl [0]) Nat 2}})", api.ErrType}, {"(lam Nat {(lam {(const Eq [0]) Nat #0 2} 0) {(const Eq.refl [0]) Nat 2}})", api.ErrType},
	} {
		term := the(c.source)
		got, err := typing.Infer(env, context, term)
		if err != c.want || err != api.OK && !isZero(got) {
			t.Errorf("Infer(%s): got %s, error %d, want %d", c.source, show(got), err, c.want)
		}
		if c.want == api.OK {
			continue
		}
		if err := typing.Check(env, context, term, the("Nat")); err != c.want {
			t.Errorf("Check(%s): error %d, want %d", c.source, err, c.want)
		}
		if got, err := typing.SortOf(env, context, term); err != c.want || !isZero(got) {
			t.Errorf("SortOf(%s): got %s, error %d, want %d", c.source, show(got), err, c.want)
		}
		// As the last element, or argument, they have an error, too.
		if at, err := typing.Context(env, append(slices.Clip(context), term)); at != len(context) || err != c.want {
			t.Errorf("Context with %s: got %d, error %d, want %d", c.source, at, err, c.want)
		}
		if at, err := typing.Args(env, context, read("Nat", "prop"), []api.Term{the("two"), term}); at != 1 || err != c.want {
			t.Errorf("Args with %s: got %d, error %d, want %d", c.source, at, err, c.want)
		}
	}
}

// P11.1: terms are checked against types of which their types are subtypes.
func TestCheck(t *testing.T) {
	for _, c := range []struct {
		source, want string
		err          api.Errno
	}{
		{"two", "Nat", api.OK}, {"two", "{(const id [1]) (sort [0]) Nat}", api.OK}, {"{f two}", "{F 2}", api.OK}, {"{f two}", "{F {plus 1 1}}", api.OK}, {"(lam Nat #0)", "(pi Nat Nat)", api.OK}, {"#1", "(sigma Nat {F 2})", api.OK},
		{"Nat", "(sort [0])", api.OK}, {"Nat", "(sort [u0])", api.OK}, {"P", "prop", api.OK}, {"P", "(sort [3])", api.OK}, {"(lam Nat P)", "(pi Nat (sort [?0]))", api.OK}, {"prop", "(sort [0])", api.OK}, {"#3", "(sigma (sort [7]) #0)", api.OK},
		{"two", "prop", api.ErrType}, {"two", "#9", api.ErrType}, {"Nat", "prop", api.ErrType}, {"(sort [0])", "(sort [0])", api.ErrType}, {"{f two}", "{F 3}", api.ErrType}, {"(lam Nat Nat)", "(pi Nat prop)", api.ErrType}, {"(lam P two)", "(pi Nat Nat)", api.ErrType}, {"#1", "(sigma Nat Nat)", api.ErrType},
		// What a term is checked against need not be a type.
		{"two", "two", api.ErrType}, {"two", "?0", api.ErrType}, {"two", "none", api.ErrType}, {"two", "(lam Nat {Nat #0})", api.OK}, {"two", "(fst (pair none Nat ?0))", api.OK}, {"?0", "{Nat Nat}", api.ErrMeta}, {"{#8 #8}", "{Nat Nat}", api.ErrFun},
	} {
		if err := typing.Check(env, context, the(c.source), the(c.want)); err != c.err {
			t.Errorf("Check(%s, %s): error %d, want %d", c.source, c.want, err, c.err)
		}
	}
}

// P11.2: the sort is brought to weak head normal form.
func TestSortOf(t *testing.T) {
	for _, c := range [][2]string{
		{"Nat", "(sort [0])"}, {"P", "prop"}, {"prop", "(sort [0])"}, {"(sort [u0])", "(sort [u0 + 1])"}, {"#9", "(sort [0])"}, {"#0", "(sort [0])"}, {"(pi Nat P)", "prop"}, {"(fst #3)", "(sort [0])"}, {"{#2 P}", "(sort [0])"},
		{"{(const id [1]) (sort [0]) Nat}", "(sort [0])"}, {"{(const Pred [u1]) (const high [0])}", ""}, {"{(const Eq [0]) Nat 1 2}", "prop"}, {"{(const Pred [60]) (const high [0])}", "(sort [60])"}, {"(let (sort [1]) (sort [0]) #0)", "(sort [1])"}, {"(snd (pair (sigma (sort [2]) #0) (sort [0]) Nat))", "(sort [0])"},
	} {
		got, err := typing.SortOf(env, context, the(c[0]))
		if c[1] == "" {
			if err != api.ErrType || !isZero(got) {
				t.Errorf("SortOf(%s): got %s, error %d", c[0], show(got), err)
			}
			continue
		}
		if want := the(c[1]); err != api.OK || !term.Same(got, want) {
			t.Errorf("SortOf(%s): got %s, error %d, want %s", c[0], show(got), err, c[1])
		}
	}
	for _, source := range []string{"two", "#8", "p", "#5", "(lam Nat Nat)", "Nat.succ", "(pair (sigma Nat Nat) 0 0)", "F"} {
		if got, err := typing.SortOf(env, context, the(source)); err != api.ErrSort || !isZero(got) {
			t.Errorf("SortOf(%s): got %s, error %d, want ErrSort", source, show(got), err)
		}
	}
}

// P11.2: the elements of a context have sorts in the context of those before.
func TestContext(t *testing.T) {
	for _, c := range []struct {
		ctx []api.Term
		at  int
		err api.Errno
	}{
		{nil, 0, api.OK}, {context, 0, api.OK}, {read("(sort [0])", "#0", "(pi #1 prop)", "{#0 #1}"), 0, api.OK},
		{read("two"), 0, api.ErrSort}, {read("(sort [0])", "#0", "#0"), 2, api.ErrSort}, {read("Nat", "{F #0}", "{F #0}"), 2, api.ErrType}, {read("Nat", "?0", "two"), 1, api.ErrMeta}, {read("(sort [100])", "none"), 0, api.ErrLevel}, {read("Nat", "none"), 1, api.ErrNone}, {read("Nat", "{#0 #0}"), 1, api.ErrFun}, {read("Nat", "(fst #0)"), 1, api.ErrPair}, {read("P", "#0"), 1, api.ErrSort},
	} {
		if at, err := typing.Context(env, c.ctx); at != c.at || err != c.err {
			t.Errorf("Context(%v): got %d, error %d, want %d, %d", c.ctx, at, err, c.at, c.err)
		}
	}
}

// P11.2: arguments are checked against the elements of a telescope in which those before are put.
func TestArgs(t *testing.T) {
	refl := "{(const Eq.refl [0]) Nat 2}"
	for _, c := range []struct {
		tel, args []api.Term
		at        int
		err       api.Errno
	}{
		{nil, nil, 0, api.OK}, {read("Nat"), read("#7"), 0, api.OK}, {read("(sort [0])", "#0", "{(const Eq [0]) #1 #0 #0}"), read("#9", "#8", "{#4 #9 #8}"), 0, api.OK},
		{read("Nat", "Nat", "{(const Eq [0]) Nat #1 #0}"), read("two", "2", refl), 0, api.OK}, {read("Nat", "Nat", "{(const Eq [0]) Nat #1 #0}"), read("two", "3", refl), 2, api.ErrType},
		// The variables of the context stand behind those of the telescope.
		{read("#9", "(pi #10 #11)"), read("#8", "(lam #9 #0)"), 0, api.OK}, {read("#9", "(pi #9 #10)"), read("#8", "(lam #9 #0)"), 1, api.ErrType},
		{read("(sort [1])", "#0"), read("Nat", "prop"), 1, api.ErrType}, {read("(sort [1])", "#0"), read("(sort [0])", "prop"), 0, api.OK}, {read("(sort [0])", "#0"), read("(sort [0])", "?0"), 0, api.ErrType}, {read("Nat", "Nat"), read("?0", "none"), 0, api.ErrMeta}, {read("Nat", "Nat"), read("0", "none"), 1, api.ErrNone},
		// An element need not be a type.
		{read("Nat", "two"), read("0", "0"), 1, api.ErrType}, {read("?0", "none"), read("0", "0"), 0, api.ErrType}, {read("(let Nat none Nat)"), read("0"), 0, api.OK},
		{read("Nat"), nil, 0, api.ErrMany}, {nil, read("none"), 0, api.ErrMany}, {read("Nat"), read("0", "0"), 0, api.ErrMany}, {read("Nat", "Nat"), read("none"), 0, api.ErrMany},
	} {
		if at, err := typing.Args(env, context, c.tel, c.args); at != c.at || err != c.err {
			t.Errorf("Args(%v, %v): got %d, error %d, want %d, %d", c.tel, c.args, at, err, c.at, c.err)
		}
	}
}

func isZero(t api.Term) bool { return term.Same(t, api.Term{}) }
