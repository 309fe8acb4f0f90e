// Package fields tells whether declarations and case trees use the fields of their kinds only.
package fields

import (
	"euclid/api"
	"euclid/term"
)

// Decl reports whether the kind of a declaration is one, and all fields that it does not use are zero.
func Decl(d api.Decl) bool {
	family, functions := d.Kind == api.DeclFamily, d.Kind == api.DeclFunctions
	hasValue := d.Kind == api.DeclDef || d.Kind == api.DeclTheorem
	return (d.Kind == api.DeclAxiom || hasValue || family || functions) &&
		(!functions || d.Name == "" && isZero(d.Type)) &&
		(hasValue || isZero(d.Value)) &&
		(family || d.Fixed == 0 && len(d.Ctors) == 0 && isZeroRec(d.Rec)) &&
		(functions || len(d.Funs) == 0)
}

// Tree reports the same for the root of a case tree.
func Tree(t *api.Tree) bool {
	switch t.Kind {
	case api.TreeLeaf:
		return t.Var == 0 && len(t.Branches) == 0
	case api.TreeSplit:
		return isZero(t.Body)
	}
	return false
}

// NoTree reports whether a case tree is zero, as that of an absurd branch has to be.
func NoTree(t *api.Tree) bool {
	return t.Kind == api.TreeLeaf && Tree(t) && isZero(t.Body)
}

func isZero(t api.Term) bool { return term.Same(t, api.Term{}) }

func isZeroRec(r api.Recursor) bool { return r.Params == 0 && isZero(r.Type) && len(r.Rules) == 0 }
