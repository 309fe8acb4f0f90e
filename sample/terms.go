// Package sample has terms, an environment, and reductions by the words of the document, with which the tests of other packages compare theirs.
package sample

import (
	"strconv"
	"strings"

	"euclid/api"
	"euclid/spines"
	"euclid/text"
)

// Node returns a term of a kind that has only kids.
func Node(kind int, kids ...api.Term) api.Term { return api.Term{Kind: kind, Kids: kids} }

// Var returns a variable.
func Var(index int) api.Term { return api.Term{Kind: api.Var, Index: index} }

// Meta returns a metavariable.
func Meta(index int) api.Term { return api.Term{Kind: api.Meta, Index: index} }

// Const returns a constant.
func Const(name string, levels ...api.Level) api.Term {
	return api.Term{Kind: api.Const, Name: name, Levels: levels}
}

// Numeral returns a natural number.
func Numeral(n int) api.Term { return Nest(n, Const("Nat.succ"), Const("Nat.zero")) }

// Nest applies a function n times.
func Nest(n int, f, t api.Term) api.Term {
	for range n {
		t = spines.Apply(f, t)
	}
	return t
}

// Show returns the text of a term, or of as much of it as is good to read.
func Show(t api.Term) string {
	s, err := text.Print(t)
	if err != api.OK {
		s = "a term that is not printable: error " + strconv.Itoa(int(err))
	}
	return s[:min(len(s), 500)]
}

// Parse reads a term from its text, in which {f a b} is f applied to a and b, and a number is a numeral.
func Parse(source string) api.Term {
	for _, sign := range []string{"{", "}", "(", ")"} {
		source = strings.ReplaceAll(source, sign, " "+sign+" ")
	}
	t, rest := parse(strings.Fields(source))
	if len(rest) > 0 {
		panic("more than a term: " + source)
	}
	return t
}

// parse reads a term from the beginning of the tokens, and returns those behind it.
func parse(tokens []string) (api.Term, []string) {
	if tokens[0] == "{" {
		terms, rest := parseAll(tokens[1:], "}")
		return spines.Apply(terms[0], terms[1:]...), rest
	}
	if tokens[0] == "(" {
		if kind := kindOf(tokens[1]); kind != api.Kinds {
			kids, rest := parseAll(tokens[2:], ")")
			return Node(kind, kids...), rest
		}
	}
	if n, err := strconv.Atoi(tokens[0]); err == nil {
		return Numeral(n), tokens[1:]
	}
	// There may be parentheses in a level.
	end, open := 0, 0
	for end == 0 || open > 0 {
		switch tokens[end] {
		case "(":
			open++
		case ")":
			open--
		}
		end++
	}
	t, _, err := text.Parse(strings.Join(tokens[:end], " "))
	if err != api.OK {
		panic("no term: " + strings.Join(tokens, " "))
	}
	return t, tokens[end:]
}

// parseAll reads terms up to a closing token.
func parseAll(tokens []string, closing string) ([]api.Term, []string) {
	var terms []api.Term
	for tokens[0] != closing {
		t, rest := parse(tokens)
		terms, tokens = append(terms, t), rest
	}
	return terms, tokens[1:]
}

// kindOf returns the kind of terms with only kids that a word stands for, or Kinds.
func kindOf(word string) int {
	switch word {
	case "app":
		return api.App
	case "lam":
		return api.Lam
	case "pi":
		return api.Pi
	case "sigma":
		return api.Sigma
	case "pair":
		return api.Pair
	case "fst":
		return api.Fst
	case "snd":
		return api.Snd
	case "let":
		return api.Let
	}
	return api.Kinds
}
