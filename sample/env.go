package sample

import (
	"strings"

	"euclid/api"
	"euclid/spines"
)

const (
	nat = `(family Nat 0 0 (sort [0]) (ctor Nat.zero Nat) (ctor Nat.succ (pi Nat Nat))
		(rec 1 (pi (pi Nat (sort [u0])) (pi (app #0 Nat.zero) (pi (pi Nat (pi (app #2 #0) (app #3 (app Nat.succ #1)))) (pi Nat (app #3 #0)))))
			(lam (pi Nat (sort [u0])) (lam (app #0 Nat.zero) (lam (pi Nat (pi (app #2 #0) (app #3 (app Nat.succ #1)))) #1)))
			(lam (pi Nat (sort [u0])) (lam (app #0 Nat.zero) (lam (pi Nat (pi (app #2 #0) (app #3 (app Nat.succ #1)))) (lam Nat
				(app (app #1 #0) (app (app (app (app (const Nat.rec [u0]) #3) #2) #1) #0))))))))`
	// The rules of Vec are not those of its recursor: nil yields its minor premise and a level, and cons is a constant applied to everything.
	vec = `(family Vec 1 1 (pi (sort [u0]) (pi Nat (sort [u0])))
		(ctor Vec.nil (pi (sort [u0]) (app (app (const Vec [u0]) #0) Nat.zero)))
		(ctor Vec.cons (pi (sort [u0]) (pi Nat (pi #1 (pi (app (app (const Vec [u0]) #2) #1) (app (app (const Vec [u0]) #3) (app Nat.succ #2)))))))
		(rec 2 prop (lam prop (lam prop (lam prop (lam prop (pair (sort [u1 + 50]) #1 (sort [u0])))))) cons))`
	plus = "(functions 0 (fun plus 2 prop (split 0 (branch Nat.zero (leaf #0)) (branch Nat.succ (leaf (app Nat.succ (app (app plus #0) #1)))))))"
	// even and odd call each other; odd zero is missing.
	parity = `(functions 0 (fun even 1 prop (split 0 (branch Nat.zero (leaf two)) (branch Nat.succ (leaf (app odd #0)))))
		(fun odd 1 prop (split 0 (branch Nat.succ (leaf (app even #0))))))`
	// less goes down both arguments, and down a field of the first one; its second branch of succ is never taken.
	less = `(functions 0 (fun less 2 prop (split 1 (absurd Nat.zero)
		(branch Nat.succ (split 0 (branch Nat.zero (leaf (app (app less #0) #1))) (branch Nat.succ (split 3 (branch Nat.succ (leaf (app (app (app (app cons #3) #2) #1) #0))) (absurd Nat.zero)))))
		(branch Nat.succ (leaf thm)))))`
	// head has levels in its leaf, and splits by the constructors of two families.
	head = "(functions 1 (fun head 2 prop (split 1 (branch Vec.nil (leaf (const big [u0]))) (branch Vec.cons (leaf (app (app #1 (sort [u0 + 70])) #3))) (branch Nat.succ (split 1 (branch Nat.succ (leaf (app #0 #1))))))))"
)

// Env returns an environment. It is in order, but most of its declarations have no types.
func Env() []api.Decl {
	var env []api.Decl
	for _, source := range []string{
		nat,
		"(axiom cons 0 prop)",
		vec,
		"(axiom ax 1 prop)",
		"(theorem thm 0 Nat Nat.zero)",
		"(def two 0 Nat (app Nat.succ (app Nat.succ Nat.zero)))",
		"(def id 1 prop (lam (sort [u0]) (lam #0 #0)))",
		"(def big 1 prop (sort [u0 + 60]))",
		"(def apart 0 prop (lam prop (lam prop #0)))",
		plus,
		parity,
		less,
		head,
		"(functions 0 (fun leafy 3 prop (leaf (app (app (app cons #2) (lam Nat #2)) #0))))",
		"(functions 0 (fun loop 1 prop (leaf (app loop #0))))",
		// grow needs ten contractions for each succ, and one for zero.
		"(functions 0 (fun grow 1 prop (split 0 (branch Nat.zero (leaf Nat.zero)) (branch Nat.succ (leaf " +
			strings.Repeat("(let prop prop ", 9) + "(app grow #9)" + strings.Repeat(")", 9) + ")))))",
	} {
		env = append(env, Decl(source))
	}
	return env
}

// WrongEnvs returns the environment Env and some that are not in order.
func WrongEnvs() [][]api.Decl {
	least := -1 << 63
	great := Var(0) // more than MaxNodes nodes
	for range 12 {
		great = spines.Apply(great, great)
	}
	return [][]api.Decl{Env(), nil,
		{{Kind: 9}},
		{{Kind: api.DeclFamily, Name: "plus", Fixed: -3}},
		{{Kind: api.DeclFamily, Name: "plus", Fixed: 9, Ctors: []api.Ctor{{Name: "two", Type: great}, {Name: "Nat.zero"}}}},
		{{Kind: api.DeclDef, Name: "two", Value: great}},
		{{Kind: api.DeclFunctions, Funs: []api.Fun{{Name: "plus", Arity: -1}, {Name: "two", Arity: least}}}},
		{{Kind: api.DeclFunctions, Funs: []api.Fun{{Name: "plus", Arity: 1, Tree: api.Tree{Kind: 7, Var: -2}}, {Name: "two", Tree: api.Tree{Kind: api.TreeSplit, Var: -(least + 1)}}}}},
	}
}
