package clone_test

import (
	"fmt"
	"testing"

	"euclid/api"
	"euclid/clone"
	"euclid/term"
)

// odd is a term of no right form, with levels and variables of levels.
func odd() api.Term {
	levels := []api.Level{{Const: -1, Vars: []api.LevelVar{{Index: 9, Plus: -9}}}, {}}
	kid := api.Term{Kind: 77, Index: -3, Name: "?", Levels: levels}
	return api.Term{Kind: api.Var, Levels: levels, Kids: []api.Term{kid, {Kind: api.App}, kid}}
}

func TestTerm(t *testing.T) {
	a := odd()
	b := clone.Term(a)
	if !term.Same(a, b) {
		t.Errorf("the copy of %v is %v", a, b)
	}
	b.Levels[0].Vars[0].Plus, b.Levels[1].Const, b.Kids[0].Levels[0].Const, b.Kids[2].Name = 1, 2, 3, "x"
	if fmt.Sprint(a) != fmt.Sprint(odd()) || b.Kids[2].Levels[0].Const != -1 {
		t.Errorf("the copy shares memory: %v", a)
	}
	deep := a
	for range 50000 {
		deep = api.Term{Kind: api.Fst, Kids: []api.Term{deep}}
	}
	if !term.Same(clone.Term(deep), deep) {
		t.Error("the copy of a deep term is another one")
	}
}

// A term with more nodes than memory can hold is not copied.
func TestManyNodes(t *testing.T) {
	double := odd()
	for range 60 {
		double = api.Term{Kind: api.App, Kids: []api.Term{double, double}}
	}
	b := clone.Term(double)
	if &b.Kids[0] != &double.Kids[0] {
		t.Error("a term of 2^60 nodes was copied")
	}
}

func TestLevels(t *testing.T) {
	a := odd().Levels
	b := clone.Levels(a)
	b[0].Vars[0].Index = 4
	if len(b) != 2 || a[0].Vars[0].Index != 9 || clone.Levels(nil) != nil {
		t.Errorf("the copy of %v is %v", a, b)
	}
}
