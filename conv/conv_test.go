package conv_test

import (
	"testing"

	"euclid/api"
	"euclid/conv"
	"euclid/sample"
	"euclid/signature"
	"euclid/spines"
	"euclid/term"
)

var tm, x, meta, con, ap, the, show, numeral = sample.Node, sample.Var, sample.Meta, sample.Const, spines.Apply, sample.Parse, sample.Show, sample.Numeral

// env is the environment of the tests, none of which changes it.
var env = append(sample.Env(),
	// bare yields a function by cases, which yields a function.
	sample.Decl("(functions 0 (fun bare 1 prop (split 0 (branch Nat.zero (leaf plus)) (branch Nat.succ (leaf (lam prop (app plus #0)))))))"),
	sample.Decl("(functions 0 (fun flip 3 prop (leaf (app (app #2 #0) #1))) (fun twice 2 prop (leaf (app #1 (app #1 #0)))))"),
	sample.Decl("(functions 0 (fun itself 1 prop (leaf itself)) (fun zeros 1 prop (leaf Nat.zero)))"),
	sample.Decl("(functions 1 (fun high 2 prop (split 0 (branch Nat.zero (leaf (const big [u0]))) (branch Nat.succ (leaf (pair prop #1 (sort [u0 + 70])))))))"),
)

func TestEnvironmentIsInOrder(t *testing.T) {
	if at, err := signature.Check(env); err != api.OK {
		t.Errorf("Check: error %d at %d", err, at)
	}
}

// check checks the results for two terms: whether they are convertible, and whether each is a subtype of the other one.
func check(t *testing.T, a, b string, equal, sub, super bool) {
	t.Helper()
	for _, c := range []struct {
		a, b       api.Term
		equal, sub bool
	}{{the(a), the(b), equal, sub}, {the(b), the(a), equal, super}} {
		if got, err := conv.Equal(env, c.a, c.b); got != c.equal || err != api.OK {
			t.Errorf("Equal(%s, %s): got %v, error %d", show(c.a), show(c.b), got, err)
		}
		if got, err := conv.Sub(env, c.a, c.b); got != c.sub || err != api.OK {
			t.Errorf("Sub(%s, %s): got %v, error %d", show(c.a), show(c.b), got, err)
		}
		var want api.Term
		if equal {
			sample.Lightly(env, func(s *sample.Slow) { want = s.ShortNorm(c.b) })
		}
		if got, ok, err := conv.Join(env, c.a, c.b); ok != c.equal || err != api.OK || !term.Same(got, want) {
			t.Errorf("Join(%s, %s): got %s, %v, error %d, want %s", show(c.a), show(c.b), show(got), ok, err, show(want))
		}
	}
}

// P10.1: terms that are convertible, and so subtypes of each other
func TestConvertible(t *testing.T) {
	for _, c := range [][2]string{
		// The examples of the chapter
		{"{plus 1 1}", "2"}, {"{plus 1}", "Nat.succ"}, {"(lam Nat {#3 #0})", "#2"}, {"(pair Nat (fst #2) (snd #2))", "#2"},
		{"{plus 0}", "(lam #5 #0)"}, {"(lam Nat {plus 0 #0})", "{plus 0}"},
		// Reductions, also in parts
		{"two", "2"}, {"{#0 two}", "{#0 {plus 1 1}}"}, {"(lam prop {#1 two})", "(lam prop {#1 2})"}, {"(pi two {plus #0 two})", "(pi 2 {plus #0 2})"}, {"(sigma two #0)", "(sigma 2 #0)"}, {"(fst {#0 two})", "(fst {#0 2})"},
		{"(pair prop two #0)", "(pair prop 2 #0)"}, {"{?3 two}", "{?3 2}"}, {"{prop two}", "{prop 2}"}, {"{(sort [u0]) two}", "{(sort [u0]) 2}"}, {"{plus #0 two}", "{plus #0 {plus two 0}}"},
		{"{(const Nat.rec [0]) #0 #1 #2 {plus #3 two}}", "{(const Nat.rec [0]) #0 #1 #2 {plus #3 2}}"}, {"{(const id [3]) Nat two}", "2"}, {"(let Nat two {#0 #1})", "{two #0}"}, {"{(pi two #0) two}", "{(pi 2 #0) 2}"},
		{"(const big [1])", "(sort [61])"}, {"(const ax [u1])", "(const ax [u1])"}, {"(sort [max(u1, 2)])", "(sort [max(2, u1)])"}, {"?7", "?7"}, {"none", "none"}, {"{(pair #0 #1 #2) two}", "{(pair #3 #1 #2) 2}"},
		// The types of functions and pairs
		{"(lam Nat #0)", "(lam prop #0)"}, {"(pair Nat #0 #1)", "(pair prop #0 #1)"}, {"{#0 (lam #1 (lam #2 #0))}", "{#0 (lam Nat (lam #0 #0))}"},
		// Eta, anywhere and several times
		{"(lam Nat (lam Nat {#2 #1 #0}))", "#0"}, {"(lam Nat (lam Nat {#4 #1 #0}))", "(lam prop {#3 #0})"}, {"{#0 (lam Nat {#1 #0})}", "{#0 #0}"}, {"(lam Nat {Nat.succ #0})", "Nat.succ"}, {"(lam Nat {?0 #0})", "?0"}, {"(lam Nat {#1 two #0})", "{#0 2}"},
		{"(pair Nat (fst {#0 two}) (snd {#0 2}))", "{#0 two}"}, {"(lam Nat (pair #0 (fst {#1 #0}) (snd {#1 #0})))", "#0"}, {"(pair #0 (lam #0 {(fst #1) #0}) (snd #0))", "#0"}, {"(lam Nat {(fst #1) #0})", "(fst #0)"}, {"(lam Nat {(const Nat.rec [0]) #1 #1 #1 #0})", "{(const Nat.rec [0]) #0 #0 #0}"},
		{"(lam Nat {(lam Nat {#2 #0}) #0})", "#0"}, {"(lam prop {(pi #1 #2) #0})", "(pi #0 #1)"}, {"(pair prop (fst (lam prop #0)) (snd (lam prop #0)))", "(lam prop #0)"}, {"(lam Nat {(pair #0 #1 #2) #0})", "(pair prop #0 #1)"},
		// Functions by cases with too few arguments
		{"plus", "(lam Nat (lam Nat {plus #1 #0}))"}, {"plus", "(lam Nat {plus #0})"}, {"{plus 2}", "(lam Nat {Nat.succ {Nat.succ #0}})"}, {"{plus two}", "{plus 2}"}, {"{plus #0}", "(lam Nat {plus #1 #0})"}, {"{plus {plus 0 #0}}", "{plus #0}"},
		{"{leafy #0 #1}", "(lam prop {cons #1 (lam prop #3) #0})"}, {"{leafy #0}", "(lam prop (lam prop {cons #2 (lam prop #2) #0}))"}, {"leafy", "(lam prop (lam prop (lam prop {cons #2 (lam prop #2) #0})))"}, {"{#0 {plus 1}}", "{#0 Nat.succ}"}, {"{plus #0 {plus 1}}", "{plus #0 Nat.succ}"},
		{"{bare 0}", "plus"}, {"{bare 1}", "plus"}, {"{bare 1}", "{bare 0}"}, {"{bare {plus 1 #0}}", "(lam prop (lam prop {plus #1 #0}))"}, {"(lam Nat {bare #0})", "bare"},
		{"{flip plus}", "(lam prop (lam prop {plus #0 #1}))"}, {"{flip {flip plus}}", "plus"}, {"{flip flip}", "(lam prop (lam prop {flip #0 #1}))"}, {"{twice {plus 1}}", "{plus 2}"}, {"{twice Nat.succ}", "{plus two}"}, {"{twice zeros}", "zeros"}, {"zeros", "(lam prop 0)"},
		{"{(const high [1]) 0}", "(lam Nat (sort [61]))"}, {"{(const high [41]) 1}", "(lam Nat {(const high [41]) 1 #0})"}, {"{(const high [1]) {plus 1 1}}", "(lam prop (pair Nat #0 (sort [71])))"}, {"(const plus [0])", "(const plus [0])"}, {"{(const high [41]) 0}", "(lam Nat (const big [41]))"},
		{"odd", "(lam Nat {odd #0})"}, {"even", "even"}, {"(fst plus)", "(fst (lam Nat {plus #0}))"}, {"(pair Nat (fst {plus 1}) (snd Nat.succ))", "{plus 1}"},
	} {
		check(t, c[0], c[1], true, true, true)
	}
}

// P10.1, P10.2: terms that are not convertible, nor subtypes of each other
func TestDifferent(t *testing.T) {
	for _, c := range [][2]string{
		{"{plus #0 0}", "#0"}, {"#0", "#1"}, {"?0", "?1"}, {"#0", "?0"}, {"#0", "{#0 #0}"}, {"{#0 #1}", "{#0 #2}"}, {"{#0 #1}", "{#1 #1}"}, {"{#0 #1 #2}", "{#0 #1}"}, {"1", "2"}, {"thm", "0"}, {"Nat", "none"}, {"(const ax [1])", "(const ax [2])"}, {"(const ax [u0])", "(const ax [u0 + 1])"},
		{"prop", "Nat"}, {"{prop #0}", "{(sort [0]) #0}"}, {"{(sort [0]) #0}", "{(sort [1]) #0}"}, {"{#0 prop}", "{#0 (sort [0])}"}, {"(fst #0)", "(snd #0)"}, {"(fst #0)", "(fst #1)"}, {"(fst #0)", "#0"}, {"{(fst #0) #1}", "{(fst #0) #2}"},
		{"(pi #0 #1)", "(sigma #0 #1)"}, {"(pi #0 #0)", "(pi #1 #0)"}, {"(pi #0 #0)", "(pi #0 #1)"}, {"(sigma #0 #0)", "(sigma #1 #0)"}, {"(sigma #0 #0)", "(sigma #0 #1)"}, {"(pi #0 #1)", "(lam #0 #1)"}, {"(sigma #0 #1)", "prop"}, {"(pi #0 #1)", "prop"}, {"(pi #0 prop)", "(sort [3])"},
		{"(lam Nat #0)", "(lam Nat #1)"}, {"(lam Nat #0)", "#0"}, {"(lam Nat {#0 #0})", "#0"}, {"(lam Nat {#1 #1})", "#0"}, {"(lam Nat {#1 #0})", "#1"}, {"(lam Nat (lam Nat {#2 #0 #1}))", "#0"}, {"(lam Nat (lam Nat #0))", "(lam Nat (lam Nat #1))"}, {"(lam Nat {#1 {Nat.succ #0}})", "#0"},
		{"(pair #0 #1 #2)", "(pair #0 #2 #1)"}, {"(pair #0 #1 #2)", "(pair #0 #1 #1)"}, {"(pair Nat (fst #0) (snd #1))", "#0"}, {"(pair Nat (snd #0) (fst #0))", "#0"}, {"(pair #0 #1 #2)", "#1"}, {"(pair #0 #1 #2)", "prop"}, {"{(pair #0 #1 #2) #3}", "{(pair #0 #1 #2) #4}"}, {"{(pair #0 #1 #2) #3}", "{(pair #0 #1 #2) #3 #3}"},
		{"plus", "Nat.succ"}, {"{plus 1}", "{plus 2}"}, {"{plus #0}", "{plus #1}"}, {"plus", "even"}, {"even", "odd"}, {"zeros", "even"}, {"{leafy #0}", "{leafy #1}"}, {"{flip plus}", "plus"}, {"(const plus [0])", "plus"}, {"{(const plus [0]) 1}", "Nat.succ"}, {"{(const high [41]) 1}", "{(const high [1]) 1}"},
		{"{(const Nat.rec [0]) #0 #1 #2}", "{(const Nat.rec [0]) #0 #1 #1}"}, {"{(const Nat.rec [0]) #0 #1 #2 #3}", "{(const Nat.rec [1]) #0 #1 #2 #3}"}, {"{plus #0 #1}", "{plus #1 #0}"}, {"{plus #0 #1 #2}", "{plus #0 #1}"}, {"(let Nat two #0)", "1"}, {"{Nat.succ #0}", "Nat.succ"},
		// A level of a leaf is too great, and so this function is stuck.
		{"{(const high [41]) 1}", "(lam prop (pair Nat #0 (sort [100])))"},
		{"{#0 {plus 1}}", "{#0 {plus 2}}"}, {"(lam Nat {#1 {plus #0}})", "(lam Nat {#1 {plus #1}})"}, {"(lam Nat {plus #0 #0})", "(lam Nat {plus #0 #1})"}, {"{#0 (pi #0 prop)}", "{#0 (pi #0 (sort [0]))}"}, {"(lam #0 prop)", "(lam #0 (sort [0]))"}, {"(pair #0 prop prop)", "(pair #0 prop (sort [0]))"},
	} {
		check(t, c[0], c[1], false, false, false)
	}
}

// P10.2: terms that are subtypes in one direction
func TestSubtypes(t *testing.T) {
	for _, c := range [][2]string{
		{"prop", "(sort [0])"}, {"prop", "(sort [u3 + 2])"}, {"(sort [0])", "(sort [1])"}, {"(sort [0])", "(sort [u0])"}, {"(sort [u0])", "(sort [max(u0, u1)])"}, {"(sort [?0])", "(sort [?0 + 1])"}, {"(sort [max(u0, 3)])", "(sort [max(u0 + 1, 3)])"}, {"(const big [2])", "(const big [3])"},
		{"(pi #0 prop)", "(pi #0 (sort [0]))"}, {"(pi two prop)", "(pi 2 (sort [u0]))"}, {"(pi #0 (pi #1 (sort [1])))", "(pi #0 (pi #1 (sort [4])))"}, {"(sigma prop prop)", "(sigma prop (sort [0]))"}, {"(sigma prop prop)", "(sigma (sort [0]) prop)"}, {"(sigma prop (sort [1]))", "(sigma (sort [0]) (sort [2]))"},
		{"(pi #0 (sigma prop #0))", "(pi #0 (sigma (sort [5]) #0))"}, {"(sigma (pi #0 prop) (sigma #1 prop))", "(sigma (pi #0 (sort [2])) (sigma #1 (sort [1])))"}, {"{(lam prop #0) prop}", "{(const id [4]) #0 (const big [1])}"}, {"(pi prop {(lam Nat #0) prop})", "(pi {(lam Nat #0) prop} (sort [0]))"},
		// A type may be the result of an eta rule.
		{"(lam Nat {prop #0})", "(sort [0])"}, {"(lam Nat {prop #0})", "(lam Nat {(sort [0]) #0})"}, {"prop", "(pair Nat (fst (sort [1])) (snd (sort [1])))"}, {"(pair Nat (fst (pi #0 prop)) (snd (pi #0 prop)))", "(lam Nat {(pi #1 (sort [0])) #0})"}, {"(pi (lam Nat {#1 #0}) prop)", "(pi #0 (sort [0]))"},
	} {
		check(t, c[0], c[1], false, true, false)
	}
	for _, c := range [][2]string{
		{"(sort [2])", "(sort [u0])"}, {"(sort [u0 + 1])", "(sort [u0])"}, {"(sort [u0])", "(sort [u1])"}, {"(sort [?1])", "(sort [u1])"}, {"(pi (sort [0]) #0)", "(pi prop #0)"}, {"(pi prop #0)", "(pi (sort [0]) #0)"}, {"(pi (sort [0]) prop)", "(pi prop (sort [0]))"}, {"(sigma (sort [0]) prop)", "(sigma prop (sort [0]))"},
		{"(pi prop prop)", "(sigma prop (sort [0]))"}, {"(pi #0 (sort [1]))", "(pi #0 prop)"}, {"prop", "(pi #0 (sort [0]))"}, {"prop", "#0"}, {"{#0 prop}", "{#0 (sort [0])}"}, {"(lam #0 prop)", "(lam #0 (sort [0]))"}, {"(fst prop)", "(fst (sort [0]))"}, {"{(pi prop prop) #0}", "{(pi prop (sort [0])) #0}"},
		{"(pi #0 (sort [0]))", "(pi #1 (sort [0]))"}, {"(sigma #0 prop)", "(sigma #1 (sort [0]))"}, {"(sort [0])", "prop"},
	} {
		got, err := conv.Sub(env, the(c[0]), the(c[1]))
		if got || err != api.OK {
			t.Errorf("Sub(%s, %s): got %v, error %d", c[0], c[1], got, err)
		}
	}
}
