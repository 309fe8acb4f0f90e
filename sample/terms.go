// Package sample has terms, an environment, and reductions by the words of the document, with which the tests of other packages compare theirs.
package sample

import (
	"strconv"

	"euclid/api"
	"euclid/spines"
	"euclid/text"
)

// Node returns a term of a kind that has only kids.
func Node(kind int, kids ...api.Term) api.Term { return api.Term{Kind: kind, Kids: kids} }

// Var returns a variable.
func Var(index int) api.Term { return api.Term{Kind: api.Var, Index: index} }

// Meta returns a metavariable.
func Meta(index int) api.Term { return api.Term{Kind: api.Meta, Index: index} }

// Const returns a constant.
func Const(name string, levels ...api.Level) api.Term {
	return api.Term{Kind: api.Const, Name: name, Levels: levels}
}

// Numeral returns a natural number.
func Numeral(n int) api.Term { return Nest(n, Const("Nat.succ"), Const("Nat.zero")) }

// Nest applies a function n times.
func Nest(n int, f, t api.Term) api.Term {
	for range n {
		t = spines.Apply(f, t)
	}
	return t
}

// Show returns the text of a term, or of as much of it as is good to read.
func Show(t api.Term) string {
	s, err := text.Print(t)
	if err != api.OK {
		s = "a term that is not printable: error " + strconv.Itoa(int(err))
	}
	return s[:min(len(s), 500)]
}
