package reduce_test

import (
	"testing"

	"euclid/api"
	"euclid/reduce"
	"euclid/sample"
	"euclid/signature"
	"euclid/spines"
	"euclid/term"
)

var tm, x, meta, con, ap, the, show, numeral = sample.Node, sample.Var, sample.Meta, sample.Const, spines.Apply, sample.Parse, sample.Show, sample.Numeral

// env is the environment of the tests, none of which changes it.
var env = sample.Env()

func wantWhnf(t *testing.T, from, want api.Term) {
	t.Helper()
	got, err := reduce.Whnf(env, from)
	if err != api.OK || !term.Same(got, want) {
		t.Errorf("Whnf(%s): got %s, error %d, want %s", show(from), show(got), err, show(want))
	}
}

// wantStuck checks that a term is its own weak head normal form, and has no next step.
func wantStuck(t *testing.T, from api.Term) {
	t.Helper()
	wantWhnf(t, from, from)
	wantNoStep(t, from)
}

func wantStep(t *testing.T, from, want api.Term) {
	t.Helper()
	got, ok, err := reduce.Step(env, from)
	if err != api.OK || !ok || !term.Same(got, want) {
		t.Errorf("Step(%s): got %s, %v, error %d, want %s", show(from), show(got), ok, err, show(want))
	}
}

func wantNoStep(t *testing.T, from api.Term) {
	t.Helper()
	got, ok, err := reduce.Step(env, from)
	if err != api.OK || ok || !term.Same(got, api.Term{}) {
		t.Errorf("Step(%s): got %s, %v, error %d, want none", show(from), show(got), ok, err)
	}
}

func TestLibraryIsInOrder(t *testing.T) {
	if at, err := signature.Check(env); err != api.OK {
		t.Errorf("Check: error %d at %d", err, at)
	}
}

// P8.1
func TestHeads(t *testing.T) {
	for _, s := range []string{
		"#0", "?3", "prop", "(sort [u0])", "(lam Nat {two #0})", "(pi two two)", "(sigma two two)", "(pair two two two)", "{#0 two}", "{?0 two}",
		"{prop two}", "{(pi two two) two}", "{(pair two two two) two}", "Nat", "{Nat two}", "Nat.zero", "{Nat.succ two}", "{Nat.zero two}", "none", "{none two}",
		"(const ax [1])", "{(const ax [1]) two}", "thm", "{thm two}", "(const two [1])", "id", "(const id [1] [2])", "{id Nat two}", "(const big [41])", "{(const big [41]) two}",
		"(const big [?0 + 41])", "plus", "{plus two}", "(const plus [0])", "{(const plus [0]) 0 two}", "loop", "(const Nat.rec [0])", "{(const Nat.rec [0]) prop 1 2}", "{Nat.rec prop 1 2 0}", "{(const Nat.rec [0] [0]) prop 1 2 0}",
		"(fst #0)", "{(snd ?0) two}", "{#1 (lam Nat #0)}",
	} {
		wantStuck(t, the(s))
	}
}

// P8.1: what is contracted at once is both the next step and on the way to the weak head normal form.
func TestContractions(t *testing.T) {
	for _, c := range [][3]string{
		// beta
		{"{(lam Nat {#0 #1 (lam #0 {#1 #2})}) #7}", "{#7 #0 (lam #7 {#8 #1})}", ""},
		{"{(lam Nat (lam Nat {#2 #1 #0})) {#4 two} #5 #6}", "{(lam Nat {#1 {#5 two} #0}) #5 #6}", "{#0 {#4 two} #5 #6}"},
		{"{(lam Nat #0) two}", "two", "{Nat.succ {Nat.succ Nat.zero}}"},
		{"{(lam Nat #1) {loop 0}}", "#0", ""},
		// zeta
		{"(let Nat two {#0 #1 (lam Nat #1)})", "{two #0 (lam Nat two)}", "{Nat.succ {Nat.succ Nat.zero} #0 (lam Nat two)}"},
		{"{(let Nat #3 (lam Nat {#1 #0})) #4}", "{(lam Nat {#4 #0}) #4}", "{#3 #4}"},
		// delta
		{"two", "{Nat.succ {Nat.succ Nat.zero}}", ""},
		{"{two two}", "{Nat.succ {Nat.succ Nat.zero} two}", ""},
		{"{(const id [u3 + 1]) #2 ?5}", "{(lam (sort [u3 + 1]) (lam #0 #0)) #2 ?5}", "?5"},
		{"(const big [40])", "(sort [100])", ""},
		{"{(const big [max(u1, ?0 + 2)]) two}", "{(sort [max(u1 + 60, ?0 + 62)]) two}", ""},
		// proj
		{"(fst (pair prop #4 two))", "#4", ""},
		{"{(snd (pair #4 #5 (lam Nat #1))) two}", "{(lam Nat #1) two}", "#0"},
		// iota
		{"{(const Nat.rec [u2]) #1 #2 #3 0}", "{(lam (pi Nat (sort [u2])) (lam {#0 Nat.zero} (lam (pi Nat (pi {#2 #0} {#3 {Nat.succ #1}})) #1))) #1 #2 #3}", "#2"},
		{"{(const Nat.rec [0]) #1 #2 #3 {Nat.succ #4} #5}",
			"{(lam (pi Nat (sort [0])) (lam {#0 Nat.zero} (lam (pi Nat (pi {#2 #0} {#3 {Nat.succ #1}})) (lam Nat {#1 #0 {(const Nat.rec [0]) #3 #2 #1 #0}})))) #1 #2 #3 #4 #5}",
			"{#3 #4 {(const Nat.rec [0]) #1 #2 #3 #4} #5}"},
		{"{(const Vec.rec [3] [?0]) #1 #2 #3 #4 #5 {(const Vec.nil [3]) #6} #7}", "{(lam prop (lam prop (lam prop (lam prop (pair (sort [?0 + 50]) #1 (sort [3])))))) #1 #2 #3 #4 #7}", "{(pair (sort [?0 + 50]) #3 (sort [3])) #7}"},
		{"{(const Vec.rec [3] [51]) #1 #2 #3 #4 #5 {Vec.cons #6 #7 #8 #9} #10}", "{cons #1 #2 #3 #4 #7 #8 #9 #10}", ""},
		// match
		{"{plus 0 {loop 0}}", "{loop 0}", "never"},
		{"{plus {Nat.succ #3} #4}", "{Nat.succ {plus #3 #4}}", ""},
		{"{plus 0 #4 two}", "{#4 two}", ""},
		{"{even 3}", "{odd 2}", "{odd 0}"},
		{"{less 2 {Nat.succ {Nat.succ #5}}}", "{cons {Nat.succ {Nat.succ #5}} {Nat.succ #5} 1 0}", ""},
		{"{less 0 {Nat.succ #5}}", "{less #5 {Nat.succ #5}}", "{less #5 {Nat.succ #5}}"},
		{"{(const head [u1]) #4 {Vec.nil #5}}", "(const big [u1])", "(sort [u1 + 60])"},
		{"{(const head [30]) #4 {Vec.cons #5 #6 #7 #8}}", "{#7 (sort [100]) {Vec.cons #5 #6 #7 #8}}", ""},
		{"{(const head [0]) #4 {Nat.succ #5}}", "{#5 #5}", ""},
		{"{leafy two (lam Nat #3) #5 two}", "{cons two (lam Nat (lam Nat #4)) #5 two}", ""},
	} {
		from, next := the(c[0]), the(c[1])
		wantStep(t, from, next)
		switch c[2] {
		case "":
			wantWhnf(t, from, next)
		case "never":
		default:
			wantWhnf(t, from, the(c[2]))
		}
	}
}

// P8.1: a scrutinee is reduced; Step makes one step in it, where it stands.
func TestScrutinees(t *testing.T) {
	for _, c := range [][3]string{
		{"(fst {(lam Nat #0) #4})", "(fst #4)", "(fst #4)"},
		{"{(fst {(lam Nat #0) (pair Nat (lam Nat #0) #4)}) #5}", "{(fst (pair Nat (lam Nat #0) #4)) #5}", "#5"},
		{"{(snd (fst {(const id [0]) #1 #2})) two}", "{(snd (fst {(lam (sort [0]) (lam #0 #0)) #1 #2})) two}", "{(snd (fst #2)) two}"},
		{"(fst (snd (pair #0 #1 #2)))", "(fst #2)", "(fst #2)"},
		// The arguments of what is stuck stay as they are.
		{"{plus {(lam Nat #0) #4} #5}", "{plus #4 #5}", ""},
		{"{plus {plus two #4} #5}", "{plus {plus {Nat.succ {Nat.succ Nat.zero}} #4} #5}", "{Nat.succ {plus {plus {Nat.succ Nat.zero} #4} #5}}"},
		{"{plus {plus #4 two} #5}", "", ""},
		{"{plus {plus {(lam Nat #0) #4} two} #5 two}", "{plus {plus #4 two} #5 two}", ""},
		{"{plus {Nat.succ two two} #1}", "", ""},
		{"{plus (fst {two #3}) #1}", "{plus (fst {Nat.succ {Nat.succ Nat.zero} #3}) #1}", ""},
		{"{(const Nat.rec [0]) #1 #2 #3 two}", "{(const Nat.rec [0]) #1 #2 #3 {Nat.succ {Nat.succ Nat.zero}}}", "{#3 {Nat.succ Nat.zero} {(const Nat.rec [0]) #1 #2 #3 {Nat.succ Nat.zero}}}"},
		{"{(const Nat.rec [0]) two two two {(lam Nat #0) #4} two}", "{(const Nat.rec [0]) two two two #4 two}", ""},
		{"{(const Nat.rec [0]) #1 #2 #3 {(const Nat.rec [0]) #1 #2 #3 two}}", "{(const Nat.rec [0]) #1 #2 #3 {(const Nat.rec [0]) #1 #2 #3 {Nat.succ {Nat.succ Nat.zero}}}}", ""},
		// Constructors of other families, or with other arguments, are no constructor terms for a recursor.
		{"{(const Nat.rec [0]) #1 #2 #3 {(const Vec.nil [0]) two}}", "", ""},
		{"{(const Nat.rec [0]) #1 #2 #3 {Nat.zero two}}", "", ""},
		{"{(const Nat.rec [0]) #1 #2 #3 Nat.succ}", "", ""},
		{"{(const Nat.rec [0]) #1 #2 #3 Nat}", "", ""},
		{"{(const Vec.rec [0] [0]) #1 #2 #3 #4 #5 {Vec.cons #6 #7 #8}}", "", ""},
		// The level of its rule would be too great.
		{"{(const Vec.rec [0] [51]) #1 #2 #3 #4 #5 {Vec.nil #6}}", "", ""},
		{"{(const head [31]) #4 {Vec.cons #5 #6 #7 #8}}", "", ""},
		{"{(const head [31]) {(lam Nat #0) two} {Vec.nil two}}", "(const big [31])", "(sort [91])"},
		// A recursor or a function with a wrong number of levels has no scrutinee.
		{"{(const Vec.rec [0]) #1 #2 #3 #4 #5 {(lam Nat #0) two}}", "", ""},
		{"{head #4 {(lam Nat #0) two}}", "", ""},
		// A branch is missing or absurd.
		{"{odd 0}", "", ""},
		{"{odd {(lam Nat #0) 0}}", "{odd 0}", ""},
		{"{even {odd {(lam Nat #0) 0}}}", "{even {odd 0}}", ""},
		{"{less {(lam Nat #0) two} 0}", "", ""},
		{"{less {(lam Nat #0) two} {(lam Nat #0) #4}}", "{less {(lam Nat #0) two} #4}", ""},
		{"{less two {(const Vec.nil [0]) #3}}", "", ""},
		{"{less {(lam Nat #0) #4} {Nat.succ {(lam Nat #0) #5}}}", "{less #4 {Nat.succ {(lam Nat #0) #5}}}", ""},
		// A field inside an argument is the scrutinee.
		{"{less {Nat.succ {(lam Nat #0) #5}} {Nat.succ {(lam Nat #0) #6}}}", "{less {Nat.succ #5} {Nat.succ {(lam Nat #0) #6}}}", ""},
		{"{less {Nat.succ {two #3}} {Nat.succ two} #6}", "{less {Nat.succ {2 #3}} {Nat.succ two} #6}", ""},
		{"{less {Nat.succ two} {Nat.succ {two #3}} #6}", "{less 3 {Nat.succ {two #3}} #6}", "{cons {Nat.succ {two #3}} {two #3} two 1 #6}"},
		{"{less {Nat.succ #4} {Nat.succ 0}}", "", ""},
		{"{less {(lam Nat #0) {Nat.succ #4}} {Nat.succ 0}}", "{less {Nat.succ #4} {Nat.succ 0}}", ""},
		// What a leaf mentions is as it was before it was reduced, but fields are those of what was reduced.
		{"{less {plus 2 #4} {plus 2 #5}}", "{less {plus 2 #4} {Nat.succ {plus 1 #5}}}", "{cons {plus 2 #5} {plus 1 #5} {plus 1 #4} {plus 0 #4}}"},
		{"{less {plus 1 #4} {plus 2 #5}}", "{less {plus 1 #4} {Nat.succ {plus 1 #5}}}", ""},
		{"{(const head [0]) #4 {plus 1 #5}}", "{(const head [0]) #4 {Nat.succ {plus 0 #5}}}", "{#5 {plus 0 #5}}"},
	} {
		from := the(c[0])
		if c[1] == "" {
			wantNoStep(t, from)
		} else {
			wantStep(t, from, the(c[1]))
		}
		if c[2] == "" {
			wantWhnf(t, from, from)
		} else {
			wantWhnf(t, from, the(c[2]))
		}
	}
	wantWhnf(t, the("{(const Nat.rec [0]) #1 {Nat.succ #2} (lam Nat (lam Nat {plus #0 #1})) two}"), the("{Nat.succ {plus {plus #2 0} 1}}"))
}
