package sample

import "euclid/api"

// Fresh reports whether results have no memory in common with others or with each other, or within themselves.
func Fresh(results, others []api.Term) bool {
	seen := map[any]bool{}
	for i := range others {
		note(&others[i], seen)
	}
	fresh := true
	for i := range results {
		fresh = note(&results[i], seen) && fresh
	}
	return fresh
}

// note notes where the memory of a term is, and reports whether nothing of it was noted before.
func note(t *api.Term, seen map[any]bool) bool {
	fresh := true
	see := func(address any) {
		fresh = fresh && !seen[address]
		seen[address] = true
	}
	for i := range t.Levels {
		see(&t.Levels[i])
		for k := range t.Levels[i].Vars {
			see(&t.Levels[i].Vars[k])
		}
	}
	for i := range t.Kids {
		see(&t.Kids[i])
		fresh = note(&t.Kids[i], seen) && fresh
	}
	return fresh
}

// Spoil overwrites everything in a term.
func Spoil(t *api.Term) {
	for i := range t.Levels {
		for k := range t.Levels[i].Vars {
			t.Levels[i].Vars[k] = api.LevelVar{Index: 5, Plus: 77}
		}
		t.Levels[i].Const = 99
	}
	for i := range t.Kids {
		Spoil(&t.Kids[i])
	}
	*t = api.Term{Kind: 55}
}

// Terms returns all terms of an environment.
func Terms(env []api.Decl) []api.Term {
	var terms []api.Term
	for _, d := range env {
		terms = append(terms, d.Type, d.Value, d.Rec.Type)
		terms = append(terms, d.Rec.Rules...)
		for _, c := range d.Ctors {
			terms = append(terms, c.Type)
		}
		for _, f := range d.Funs {
			terms = append(terms, f.Type)
			terms = appendBodies(terms, f.Tree)
		}
	}
	return terms
}

func appendBodies(terms []api.Term, tree api.Tree) []api.Term {
	terms = append(terms, tree.Body)
	for _, b := range tree.Branches {
		terms = appendBodies(terms, b.Tree)
	}
	return terms
}
