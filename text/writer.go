package text

import (
	"bytes"
	"slices"
	"strconv"

	"euclid/api"
	"euclid/fields"
	"euclid/level"
	"euclid/term"
)

const maxNumber = 999999

// writer collects a text. If this gets too long, nothing is added any more.
type writer struct{ text []byte }

func (w *writer) isFull() bool { return len(w.text) > api.MaxText }

// add adds tokens, and a space before each of them where one belongs. A token may also be a text in parentheses.
func (w *writer) add(tokens ...string) {
	for _, token := range tokens {
		if w.isFull() {
			return
		}
		if len(w.text) > 0 && token != ")" && !bytes.HasSuffix(w.text, []byte("(")) {
			w.text = append(w.text, ' ')
		}
		w.text = append(w.text, token...)
	}
}

// result returns the text, or ErrLong.
func (w *writer) result() (string, api.Errno) {
	if w.isFull() {
		return "", api.ErrLong
	}
	return string(w.text), api.OK
}

// term adds the text of a term that term.Check accepts.
func (w *writer) term(t api.Term) {
	if w.isFull() {
		return
	}
	switch {
	case t.Kind == api.Var:
		w.add("#" + strconv.Itoa(t.Index))
	case t.Kind == api.Meta:
		w.add("?" + strconv.Itoa(t.Index))
	case t.Kind == api.Prop:
		w.add(propWord)
	case t.Kind == api.Const && len(t.Levels) == 0 && t.Name != propWord:
		w.add(t.Name)
	default:
		w.node(t)
	}
}

// node adds the text of a term that is written in parentheses.
func (w *writer) node(t api.Term) {
	w.add("(", termWords()[t.Kind])
	if t.Kind == api.Const {
		w.add(t.Name)
	}
	for _, l := range t.Levels {
		s, _ := level.Text(l)
		w.add("[" + s + "]")
	}
	for _, kid := range t.Kids {
		w.term(kid)
	}
	w.add(")")
}

// declWriter writes a declaration. It stops by a panic at the first error but for ErrLong of the whole text, which comes last.
type declWriter struct {
	writer
	err api.Errno
}

func (w *declWriter) fail(err api.Errno) {
	w.err = err
	panic(err)
}

func (w *declWriter) name(s string) {
	if !term.Name(s) {
		w.fail(api.ErrName)
	}
	w.add(s)
}

func (w *declWriter) number(n int) {
	if n < 0 || n > maxNumber {
		w.fail(api.ErrRange)
	}
	w.add(strconv.Itoa(n))
}

func (w *declWriter) term(t api.Term) {
	s, err := Print(t)
	if err != api.OK {
		w.fail(err)
	}
	w.add(s)
}

func (w *declWriter) decl(d api.Decl) {
	if !fields.Decl(d) {
		w.fail(api.ErrForm)
	}
	w.add("(", declWords()[d.Kind])
	if d.Kind != api.DeclFunctions {
		w.name(d.Name)
	}
	w.number(d.Params)
	switch d.Kind {
	case api.DeclAxiom:
		w.term(d.Type)
	case api.DeclDef, api.DeclTheorem:
		w.term(d.Type)
		w.term(d.Value)
	case api.DeclFamily:
		w.family(d)
	case api.DeclFunctions:
		for _, f := range d.Funs {
			w.fun(f)
		}
	}
	w.add(")")
}

func (w *declWriter) family(d api.Decl) {
	w.number(d.Fixed)
	w.term(d.Type)
	for _, c := range d.Ctors {
		w.add("(", "ctor")
		w.name(c.Name)
		w.term(c.Type)
		w.add(")")
	}
	w.add("(", "rec")
	w.number(d.Rec.Params)
	w.term(d.Rec.Type)
	for _, rule := range d.Rec.Rules {
		w.term(rule)
	}
	w.add(")")
}

func (w *declWriter) fun(f api.Fun) {
	w.add("(", "fun")
	w.name(f.Name)
	w.number(f.Arity)
	w.term(f.Type)
	w.tree(f.Tree)
	w.add(")")
}

// part is a part of a case tree: a tree or a branch, or, if both are nil, a closing parenthesis.
type part struct {
	tree   *api.Tree
	branch *api.Branch
}

// tree has a stack of its own, of the parts that are still to be written: nothing limits the depth of a case tree.
func (w *declWriter) tree(t api.Tree) {
	parts := []part{{tree: &t}}
	for len(parts) > 0 {
		p := parts[len(parts)-1]
		parts = parts[:len(parts)-1]
		switch {
		case p.tree != nil:
			parts = append(parts, w.splitOrLeaf(p.tree)...)
		case p.branch != nil:
			parts = append(parts, w.branch(p.branch)...)
		default:
			w.add(")")
		}
	}
}

// splitOrLeaf writes the beginning of a case tree; it returns the rest, the last part first.
func (w *declWriter) splitOrLeaf(t *api.Tree) []part {
	if !fields.Tree(t) {
		w.fail(api.ErrForm)
	}
	w.add("(", treeWords()[t.Kind])
	parts := []part{{}}
	if t.Kind == api.TreeLeaf {
		w.term(t.Body)
		return parts
	}
	w.number(t.Var)
	for i := range slices.Backward(t.Branches) {
		parts = append(parts, part{branch: &t.Branches[i]})
	}
	return parts
}

// branch writes the beginning of a branch; it returns the rest, the last part first.
func (w *declWriter) branch(b *api.Branch) []part {
	if !b.Absurd {
		w.add("(", "branch")
		w.name(b.Ctor)
		return []part{{}, {tree: &b.Tree}}
	}
	w.add("(", "absurd")
	w.name(b.Ctor)
	if !fields.NoTree(&b.Tree) {
		w.fail(api.ErrForm)
	}
	return []part{{}}
}
