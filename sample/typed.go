package sample

import (
	"slices"
	"strings"

	"euclid/api"
)

const (
	typedPlus = "(functions 0 (fun plus 2 (pi Nat (pi Nat Nat)) (split 0 (branch Nat.zero (leaf #0)) (branch Nat.succ (leaf {Nat.succ {plus #0 #1}})))))"
	// Tuple n is the type of n + 1 numbers.
	typedTuple = "(functions 0 (fun Tuple 1 (pi Nat (sort [0])) (split 0 (branch Nat.zero (leaf Nat)) (branch Nat.succ (leaf (sigma Nat {Tuple #1}))))))"
	typedLoops = "(functions 0 (fun loop 1 (pi Nat Nat) (leaf {loop #0})) (fun Spin 1 (pi Nat (sort [0])) (leaf {Spin #0})))"
)

// Typed returns an environment whose terms have types. Only loop and Spin do not terminate.
func Typed() []api.Decl {
	var env []api.Decl
	for _, source := range []string{
		nat,
		typedPlus,
		typedVec(),
		typedEq(),
		"(family False 0 0 prop (rec 1 (pi (pi False (sort [u0])) (pi False {#1 #0}))))",
		"(axiom A 0 (sort [0]))",
		"(axiom a 0 A)",
		"(axiom P 0 prop)",
		"(axiom p 0 P)",
		"(axiom F 0 (pi Nat (sort [0])))",
		"(axiom f 0 (pi Nat {F #0}))",
		"(axiom high 1 (sort [u0 + 60]))",
		"(def two 0 Nat {Nat.succ {Nat.succ Nat.zero}})",
		"(def id 1 (pi (sort [u0]) (pi #0 #1)) (lam (sort [u0]) (lam #0 #0)))",
		"(def Pred 1 (pi (sort [u0]) (sort [max(1, u0)])) (lam (sort [u0]) (pi #0 prop)))",
		"(def Both 2 (pi (sort [u0]) (pi (sort [u1]) (sort [max(u0, u1)]))) (lam (sort [u0]) (lam (sort [u1]) (sigma #1 #1))))",
		"(theorem same 0 {(const Eq [0]) Nat two {plus two Nat.zero}} {(const Eq.refl [0]) Nat two})",
		typedTuple,
		typedLoops,
		// grow needs ten contractions for each succ, and one for zero.
		"(functions 0 (fun grow 1 (pi Nat Nat) (split 0 (branch Nat.zero (leaf Nat.zero)) (branch Nat.succ (leaf " +
			strings.Repeat("(let (sort [0]) prop ", 9) + "{grow #9}" + strings.Repeat(")", 9) + ")))))",
	} {
		env = append(env, Decl(source))
	}
	return env
}

func typedVec() string {
	telescope := []string{"(sort [u0])", "(pi Nat (pi {(const Vec [u0]) #1 #0} (sort [u1])))", "{#0 Nat.zero {(const Vec.nil [u0]) #1}}",
		"(pi Nat (pi #3 (pi {(const Vec [u0]) #4 #1} (pi {#4 #2 #0} {#5 {Nat.succ #3} {(const Vec.cons [u0]) #6 #3 #2 #1}}))))"}
	indices := []string{"Nat", "{(const Vec [u0]) #4 #0}"}
	fields := []string{"Nat", "#4", "{(const Vec [u0]) #5 #1}"}
	return `(family Vec 1 1 (pi (sort [u0]) (pi Nat (sort [u0])))
		(ctor Vec.nil (pi (sort [u0]) {(const Vec [u0]) #0 Nat.zero}))
		(ctor Vec.cons (pi (sort [u0]) (pi Nat (pi #1 (pi {(const Vec [u0]) #2 #1} {(const Vec [u0]) #3 {Nat.succ #2}})))))
		(rec 2 ` + below("pi", slices.Concat(telescope, indices), "{#4 #1 #0}") + below("lam", telescope, "#1") +
		below("lam", slices.Concat(telescope, fields), "{#3 #2 #1 #0 {(const Vec.rec [u0] [u1]) #6 #5 #4 #3 #2 #0}}") + "))"
}

func typedEq() string {
	telescope := []string{"(sort [u0])", "#0", "(pi #1 (pi {(const Eq [u0]) #2 #1 #0} (sort [u1])))", "{#0 #1 {(const Eq.refl [u0]) #2 #1}}"}
	indices := []string{"#3", "{(const Eq [u0]) #4 #3 #0}"}
	return `(family Eq 1 2 (pi (sort [u0]) (pi #0 (pi #1 prop)))
		(ctor Eq.refl (pi (sort [u0]) (pi #0 {(const Eq [u0]) #1 #0 #0})))
		(rec 2 ` + below("pi", slices.Concat(telescope, indices), "{#3 #1 #0}") + below("lam", telescope, "#0") + "))"
}

// below returns a text below binders with the types of a telescope.
func below(binder string, telescope []string, source string) string {
	for _, domain := range slices.Backward(telescope) {
		source = "(" + binder + " " + domain + " " + source + ")"
	}
	return source
}
