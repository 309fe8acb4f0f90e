package nbe_test

import (
	"testing"

	"euclid/api"
	"euclid/nbe"
	"euclid/sample"
	"euclid/signature"
	"euclid/spines"
	"euclid/term"
)

var tm, x, meta, con, ap, the, show, numeral = sample.Node, sample.Var, sample.Meta, sample.Const, spines.Apply, sample.Parse, sample.Show, sample.Numeral

// env is the environment of the tests, none of which changes it.
var env = sample.Env()

// wantNorm checks the normal form of a term, which is normal itself.
func wantNorm(t *testing.T, from, want api.Term) {
	t.Helper()
	got, err := nbe.Norm(env, from)
	if err != api.OK || !term.Same(got, want) {
		t.Errorf("Norm(%s): got %s, error %d, want %s", show(from), show(got), err, show(want))
	}
	if !nbe.Normal(env, want) {
		t.Errorf("Normal(%s) is false", show(want))
	}
	if nbe.Normal(env, from) != term.Same(from, want) {
		t.Errorf("Normal(%s) is not %v", show(from), term.Same(from, want))
	}
}

func TestEnvironmentIsInOrder(t *testing.T) {
	if at, err := signature.Check(env); err != api.OK {
		t.Errorf("Check: error %d at %d", err, at)
	}
}

// P9.1
func TestNorm(t *testing.T) {
	for from, want := range map[string]string{
		// The examples of the chapter
		"{plus {Nat.succ #3} {(lam Nat #0) #4}}": "{Nat.succ {plus #3 #4}}",
		"(fst {(lam Nat #0) {#2 two}})":          "(fst {#2 2})",
		// Every contraction
		"{(lam prop (lam prop {#1 #0 #5})) #0 two}":                                               "{#0 2 #3}",
		"(let Nat two {#0 (lam #0 #1)})":                                                          "{Nat.succ {Nat.succ Nat.zero} (lam 2 2)}",
		"{(const id [4]) two #1}":                                                                 "#1",
		"(const big [max(u1, 3)])":                                                                "(sort [max(u1 + 60, 63)])",
		"(pair (fst (pair two two #1)) (snd (pair two #1 two)) two)":                              "(pair 2 2 2)",
		"{(fst (pair two (lam Nat {#0 #3}) #1)) two}":                                             "{2 #2}",
		"{(const Nat.rec [0]) #0 two (lam Nat (lam two {#4 #0})) 2}":                              "{#2 {#2 2}}",
		"{(const Vec.rec [2] [1]) #0 #1 #2 #3 #4 {Vec.cons 0 0 0 0}}":                             "{cons #0 #1 #2 #3 0 0 0}",
		"{(const Vec.rec [2] [1]) two #1 #2 #3 #4 {Vec.nil 0} two}":                               "{(pair (sort [51]) #2 (sort [2])) 2}",
		"{plus {plus two two} {plus two two}}":                                                    "8",
		"{less {plus 3 #5} {plus 1 {two #6}}}":                                                    "{cons {Nat.succ {2 #6}} {2 #6} {Nat.succ {Nat.succ #5}} {Nat.succ #5}}",
		"{(const head [7]) (lam prop (lam Nat (pair #1 #0 two))) {(const Vec.cons [0]) 0 1 2 3}}": "{2 (sort [77]) {(const Vec.cons [0]) 0 1 2 3}}",
		// Parts of heads of all kinds
		"(lam two (lam {two #0} {two #1 #0}))":     "(lam 2 (lam {2 #0} {2 #1 #0}))",
		"(pi two {two #0})":                        "(pi 2 {2 #0})",
		"(sigma two {(lam #0 #0) {two #0}})":       "(sigma 2 {2 #0})",
		"{(pi two two) two}":                       "{(pi 2 2) 2}",
		"{(pair two two two) two #0}":              "{(pair 2 2 2) 2 #0}",
		"{(fst {(pair #0 #1 #2) two}) two}":        "{(fst {(pair #0 #1 #2) 2}) 2}",
		"{(snd (lam two two)) two}":                "{(snd (lam 2 2)) 2}",
		"{prop two}":                               "{prop 2}",
		"{(sort [u0 + 2]) two}":                    "{(sort [u0 + 2]) 2}",
		"{?3 two ?2}":                              "{?3 2 ?2}",
		"{(const ax [1]) two}":                     "{(const ax [1]) 2}",
		"{none two}":                               "{none 2}",
		"{thm two}":                                "{thm 2}",
		"{Nat two}":                                "{Nat 2}",
		"{Vec.cons two}":                           "{Vec.cons 2}",
		"(lam Nat (lam {#0 #1 #2} {#0 #1 #2 #3}))": "(lam Nat (lam {#0 #1 #2} {#0 #1 #2 #3}))",
		"{(lam Nat (lam Nat (lam Nat {#0 #1 #2 #3}))) {#0 #1} (lam #0 {#0 #1 #2})}": "(lam Nat {#0 (lam #1 {#0 #2 #3}) {#1 #2} #1})",
		// What is stuck
		"{plus {plus #3 two} two}":                                 "{plus {plus #3 2} 2}",
		"{plus {(lam Nat #0) ?1} {plus 0 1} two}":                  "{plus ?1 1 2}",
		"{plus {plus 0 0}}":                                        "{plus 0}",
		"{odd {plus 0 0}}":                                         "{odd 0}",
		"{odd {plus two 1}}":                                       "2",
		"{less {plus 1 0} {plus 0 #0}}":                            "{less 1 #0}",
		"{less {plus 0 1} {plus 0 0}}":                             "{less 1 0}",
		"{(const Nat.rec [0]) two two two {plus 0 #0} two}":        "{(const Nat.rec [0]) 2 2 2 #0 2}",
		"{(const Nat.rec [0]) two two two}":                        "{(const Nat.rec [0]) 2 2 2}",
		"{(const Nat.rec [0]) #0 #1 #2 {(const Vec.nil [0]) two}}": "{(const Nat.rec [0]) #0 #1 #2 {(const Vec.nil [0]) 2}}",
		"{plus {Nat.succ two two} 0}":                              "{plus {Nat.succ 2 2} 0}",
		"{plus Nat.succ two}":                                      "{plus Nat.succ 2}",
		"{plus (pair two 0 0) (lam two 0)}":                        "{plus (pair 2 0 0) (lam 2 0)}",
		"{plus (lam two 0) 0}":                                     "{plus (lam 2 0) 0}",
		// Levels that are wrong or too great
		"{(const plus [0]) two two}":                         "{(const plus [0]) 2 2}",
		"{(const big [41]) two}":                             "{(const big [41]) 2}",
		"{(const two [0]) two}":                              "{(const two [0]) 2}",
		"{Nat.rec two #0 two two}":                           "{Nat.rec 2 #0 2 2}",
		"{(const head [31]) two {Vec.cons two 0 0 0}}":       "{(const head [31]) 2 {Vec.cons 2 0 0 0}}",
		"{(const head [31]) two {Vec.nil two}}":              "(sort [91])",
		"{(const Vec.rec [0] [51]) 0 0 0 0 0 {Vec.nil two}}": "{(const Vec.rec [0] [51]) 0 0 0 0 0 {Vec.nil 2}}",
		// Arguments that are thrown away
		"{apart {loop 0} two}":          "2",
		"(fst (pair prop #0 {loop 0}))": "#0",
		"(let {loop 0} {loop 0} #1)":    "#0",
	} {
		wantNorm(t, the(from), the(want))
	}
}

// P9.1: a term is not normal if something anywhere in it is not.
func TestNormal(t *testing.T) {
	for _, s := range []string{"#0", "?0", "prop", "(sort [u0])", "Nat", "none", "plus", "{plus #0 1}", "{plus 0}", "{odd 0}", "thm", "(const big [41])", "(const two [0])", "{Nat.rec 0 0 0 0}", "(lam prop (lam prop {#1 #0}))", "(fst #0)", "(snd (lam Nat #0))",
		"{(pair #0 #1 #2) #3}", "{(pi Nat Nat) 0}", "{plus {plus #0 0} {plus #1 0}}", "{less 1 0}", "{(const Nat.rec [0]) 0 0 0 {Nat.succ 0 0}}", "(pair prop (fst #0) (snd #0))", "(lam prop {#1 #0})"} {
		if !nbe.Normal(env, the(s)) {
			t.Errorf("Normal(%s) is false", s)
		}
	}
	for _, redex := range []string{"{(lam Nat #0) #0}", "(let Nat #0 #1)", "two", "(const id [3])", "(fst (pair #0 #1 #2))", "{(snd (pair #0 #1 #2)) #3}", "{plus 0 #0}", "{plus two #0}", "{plus 1 #0 #1}", "{even 1}", "{odd {plus 0 0}}",
		"{(const Nat.rec [0]) #0 #1 #2 0}", "{(const Nat.rec [0]) #0 #1 #2 {plus 0 #3}}", "{less {plus 0 #0} 1}", "{less {Nat.succ {plus 0 #0}} {Nat.succ {plus 0 #0}}}", "{loop 0}", "{(lam Nat {#0 #0}) (lam Nat {#0 #0})}", "{leafy #0 #1 #2}"} {
		for _, around := range []string{"R", "{#0 R}", "{#0 R #1}", "{Nat R}", "(lam R #0)", "(lam #0 R)", "(pi R #0)", "(pi #0 R)", "(sigma R #0)", "(sigma #0 R)", "(pair R #0 #0)", "(pair #0 R #0)", "(pair #0 #0 R)", "(fst R)", "(snd R)",
			"{plus R #0}", "{plus #0 R}", "{plus R}", "{(pi R #0) #0}", "{(pair #0 #0 #0) R}", "{Nat.succ R}", "{(fst {#0 R}) #1}", "{odd {#0 R}}", "{(const Nat.rec [0]) R #0 #0 #0}", "(let #0 #0 R)"} {
			s := replace(the(around), the(redex))
			if nbe.Normal(env, s) {
				t.Errorf("Normal(%s) is true", show(s))
			}
		}
	}
}

// replace puts a term in the place of the constant R.
func replace(t, with api.Term) api.Term {
	if t.Name == "R" {
		return with
	}
	kids := t.Kids
	t.Kids = nil
	for _, kid := range kids {
		t.Kids = append(t.Kids, replace(kid, with))
	}
	return t
}

// P9.2
func TestShort(t *testing.T) {
	for from, want := range map[string]string{
		// The examples of the chapter
		"(lam Nat {#4 #0})":                                            "#3",
		"(lam Nat {#0 #0})":                                            "(lam prop {#0 #0})",
		"(pair Nat (fst #2) (snd #2))":                                 "#2",
		"(lam Nat #0)":                                                 "(lam prop #0)",
		"(lam Nat (lam Nat {#2 #1 #0}))":                               "#0",
		"(lam Nat (lam Nat {#0 #1 #0}))":                               "(lam prop (lam prop {#0 #1 #0}))",
		"(lam Nat (lam Nat {#1 #1 #0}))":                               "(lam prop {#0 #0})",
		"(lam Nat (lam Nat {#2 #0 #1}))":                               "(lam prop (lam prop {#2 #0 #1}))",
		"(lam Nat {#1 #1})":                                            "(lam prop {#1 #1})",
		"(lam Nat {#1 {Nat.succ #0}})":                                 "(lam prop {#1 {Nat.succ #0}})",
		"(lam Nat {Nat.succ #0})":                                      "Nat.succ",
		"(lam (lam Nat #0) {plus 0 #0})":                               "{plus 0}",
		"(lam Nat {(lam #0 #0) #0})":                                   "(lam prop #0)",
		"(lam Nat {(lam Nat #1) #0})":                                  "(lam prop {(lam prop #1) #0})",
		"(lam Nat {(lam Nat #2) #0})":                                  "(lam prop #1)",
		"(lam Nat {(lam Nat {#1 #0 #3}) #0})":                          "(lam prop {(lam prop {#1 #0 #3}) #0})",
		"(lam Nat {(lam #0 {#3 #0 #3}) #0})":                           "(lam prop {#2 #0 #2})",
		"(lam Nat {(let #1 #2 {#0 #1 #2}) #0})":                        "(lam prop {(let #1 #2 {#0 #1 #2}) #0})",
		"(lam Nat {(let #1 #2 {#0 #2}) #0})":                           "(let #0 #1 {#0 #1})",
		"(lam Nat {(pi #1 {#0 #2}) #0})":                               "(pi #0 {#0 #1})",
		"(lam Nat {(sigma #1 #1) #0})":                                 "(lam prop {(sigma #1 #1) #0})",
		"(lam Nat {(pair #0 #1 #2) #0})":                               "(pair prop #0 #1)",
		"(lam Nat {(lam #0 (lam #1 #2)) #0})":                          "(lam prop {(lam prop (lam prop #2)) #0})",
		"(lam Nat (pair #0 (fst {#3 #0}) (snd {#3 #0})))":              "#2",
		"(pair Nat (fst (lam Nat {#1 #0})) (snd #0))":                  "#0",
		"(pair Nat (fst #2) (snd #3))":                                 "(pair prop (fst #2) (snd #3))",
		"(pair Nat (snd #2) (fst #2))":                                 "(pair prop (snd #2) (fst #2))",
		"(pair Nat (fst #2) (fst #2))":                                 "(pair prop (fst #2) (fst #2))",
		"(pair Nat (fst (pair Nat #0 #1)) (snd (pair prop #0 #1)))":    "(pair prop #0 #1)",
		"{(pair Nat (fst #2) (snd #2)) (lam Nat {#3 #0})}":             "{#2 #2}",
		"(pair Nat (pair Nat (fst #1) (snd #1)) (lam Nat {#1 #0}))":    "(pair prop #1 #0)",
		"(fst (pair Nat (fst (pair Nat (fst #5) (snd #5))) (snd #5)))": "(fst #5)",
		// Nothing is reduced, and nothing else changes.
		"{(lam Nat {#0 #0}) two}":                              "{(lam prop {#0 #0}) two}",
		"(let Nat {plus 0 0} (fst (pair Nat #0 #1)))":          "(let Nat {plus 0 0} (fst (pair prop #0 #1)))",
		"(pi (lam Nat {#1 #0}) (sigma Nat (lam Nat {#1 #0})))": "(pi #0 (sigma Nat #0))",
		"(const ax [max(u1, ?2 + 1)])":                         "(const ax [max(u1, ?2 + 1)])",
		"(sort [max(u1, 3)])":                                  "(sort [max(u1, 3)])",
		"prop":                                                 "prop", "?4": "?4", "#7": "#7", "none": "none", "{?1 #1}": "{?1 #1}",
		"(lam Nat ?0)": "(lam prop ?0)", "(lam Nat {?0 #0})": "?0",
	} {
		if got := nbe.Short(the(from)); !term.Same(got, the(want)) {
			t.Errorf("Short(%s): got %s, want %s", from, show(got), want)
		}
	}
}
