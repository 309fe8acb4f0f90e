package reduce_test

import (
	"testing"

	"euclid/api"
	"euclid/reduce"
	"euclid/term"
)

// tree returns the case tree of a function of the environment of the tests.
func tree(name string) api.Tree {
	for _, d := range env {
		for _, f := range d.Funs {
			if f.Name == name {
				return f.Tree
			}
		}
	}
	panic(name)
}

// P8.2
func TestSelect(t *testing.T) {
	for _, c := range []struct {
		name string
		args []string
		want string // "" if no leaf is reached
	}{
		{"plus", []string{"0", "{loop 0}"}, "{loop 0}"},
		{"plus", []string{"{Nat.succ {two #3}}", "#4"}, "{Nat.succ {plus {two #3} #4}}"},
		{"plus", []string{"two", "#4"}, "{Nat.succ {plus {Nat.succ Nat.zero} #4}}"},
		{"plus", []string{"#4", "two"}, ""},
		{"plus", []string{"{plus #4 two}", "two"}, ""},
		{"odd", []string{"0"}, ""},
		{"odd", []string{"two"}, "{even 1}"},
		{"less", []string{"two", "0"}, ""},
		{"less", []string{"{plus 1 #5}", "{plus 1 #6}"}, ""},
		{"less", []string{"0", "{plus 1 #6}"}, "{less {plus 0 #6} {plus 1 #6}}"},
		{"less", []string{"{plus 3 #5}", "{plus 1 #6}"}, "{cons {plus 1 #6} {plus 0 #6} {plus 2 #5} {plus 1 #5}}"},
		// The levels of the leaf stay as they are, and it is not reduced.
		{"head", []string{"#4", "{Vec.nil #5}"}, "(const big [u0])"},
		{"head", []string{"#4", "{Vec.cons #5 #6 #7 #8}"}, "{#7 (sort [u0 + 70]) {Vec.cons #5 #6 #7 #8}}"},
		{"leafy", []string{"two", "(lam Nat #3)", "?4"}, "{cons two (lam Nat (lam Nat #4)) ?4}"},
		{"loop", []string{"{loop 0}"}, "{loop {loop 0}}"},
	} {
		args := make([]api.Term, len(c.args))
		for i, arg := range c.args {
			args[i] = the(arg)
		}
		var want api.Term
		if c.want != "" {
			want = the(c.want)
		}
		got, ok, err := reduce.Select(env, tree(c.name), args)
		if err != api.OK || ok != (c.want != "") || !term.Same(got, want) {
			t.Errorf("Select(%s, %v): got %s, %v, error %d, want %s", c.name, c.args, show(got), ok, err, show(want))
		}
	}
	// The tree itself may stand elsewhere, too: here it has a level of another function.
	got, ok, err := reduce.Select(env, api.Tree{Body: the("{(const id [u3]) #0}")}, []api.Term{the("two")})
	if err != api.OK || !ok || !term.Same(got, the("{(const id [u3]) two}")) {
		t.Errorf("Select of a leaf: got %s, %v, error %d", show(got), ok, err)
	}
}

// P8.2
func TestBlocked(t *testing.T) {
	for source, want := range map[string]int{
		"?3": 3, "{?0 two}": 0, "{(lam Nat #0) ?5}": 5, "{(lam Nat {#0 #1}) ?5}": 5, "(let Nat ?2 {#0 two})": 2,
		"(fst ?1)": 1, "{(snd {?1 two}) two}": 1, "{(fst (snd (fst ?9))) #3}": 9, "(fst {(lam Nat #0) ?8})": 8, "(fst (pair prop ?6 #2))": 6,
		"{plus ?3 #2}": 3, "{plus {?3 two} ?2 ?1}": 3, "{plus {plus {plus ?7 ?1} ?2} ?3}": 7, "{plus (fst ?4) 0}": 4, "{plus {(lam Nat #0) {plus ?5 0}} 0}": 5,
		"{plus 0 ?7}": 7, "{(const Nat.rec [0]) ?1 ?2 ?3 {plus ?4 ?5} ?6}": 4, "{(const Nat.rec [0]) ?1 ?2 ?3 0}": 2, "{(const Nat.rec [0]) ?1 ?2 ?3 two}": 3,
		"{(const Nat.rec [0]) ?1 ?2 ?3 (fst (fst ?9))}": 9,
		"{less ?1 ?2}": 2, "{less ?1 {plus 1 ?2}}": 1, "{less {Nat.succ ?1} {plus 1 ?2}}": 1, "{less {plus 1 {plus ?3 1}} {plus 1 ?2}}": 3,
		"{even {plus 2 ?4}}": 4, "{(const head [0]) ?1 {Nat.succ ?2}}": 2, "{(const big [40]) ?1}": -1,
		"#0": -1, "{#0 ?1}": -1, "Nat": -1, "{Nat.succ ?0}": -1, "(lam Nat ?0)": -1, "(pi ?0 ?0)": -1, "(pair ?0 ?0 ?0)": -1, "{(pair ?0 ?0 ?0) ?1}": -1, "(fst #2)": -1, "(fst {#2 ?0})": -1,
		"{plus ?0}": -1, "{plus #0 ?0}": -1, "{plus {Nat.succ ?0} ?1}": -1, "{(const Nat.rec [0]) ?1 ?2 ?3}": -1, "{plus {#4 ?0} ?1}": -1, "{plus (fst {#4 ?0}) ?1}": -1,
		"{plus {plus #3 ?0} ?1}": -1, "{plus {Nat.zero ?1} ?0}": -1, "{plus {Nat.succ ?1 ?1} ?0}": -1, "{odd 0}": -1, "{odd 0 ?1}": -1, "{less ?1 0}": -1,
		// A wrong number of levels, or levels that are too great
		"{(const plus [0]) ?1 ?2}": -1, "{Nat.rec ?1 ?2 ?3 ?4}": -1, "{head ?1 ?2}": -1, "{(const id [0] [0]) ?1 ?2}": -1, "{thm ?1}": -1, "{none ?1}": -1,
		"{(const head [31]) ?4 {Vec.cons ?5 ?6 ?7 ?8}}": -1, "{(const Vec.rec [0] [51]) ?1 ?2 ?3 ?4 ?5 {Vec.nil ?6}}": -1,
		"{(const Vec.rec [0] [51]) ?1 ?2 ?3 ?4 ?5 ?6}": 6,
	} {
		got, ok, err := reduce.Blocked(env, the(source))
		if err != api.OK || ok != (want >= 0) || got != max(want, 0) {
			t.Errorf("Blocked(%s): got %d, %v, error %d, want %d", source, got, ok, err, want)
		}
	}
}
