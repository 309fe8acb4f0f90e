// Package constants tells what reductions have to know of the constants of an environment.
package constants

import (
	"euclid/api"
	"euclid/signature"
	"euclid/telescope"
)

// Constant is what is known of a constant: its entry, whether it is declared at all, and, for a family or a constructor, the number of leading function types of its type.
type Constant struct {
	api.Entry
	Declared bool
	Domains  int
}

// Usable reports whether a constant with levels is declared and has as many of them as it has level parameters.
func (c Constant) Usable(levels []api.Level) bool {
	return c.Declared && len(levels) == c.Params
}

// Table looks constants up, each one once.
type Table struct {
	env   []api.Decl
	known map[string]Constant
}

// New returns a table of the constants of an environment.
func New(env []api.Decl) *Table { return &Table{env: env, known: map[string]Constant{}} }

// Find returns what is known of a constant.
func (t *Table) Find(name string) Constant {
	c, ok := t.known[name]
	if !ok {
		entry, err := signature.Find(t.env, name)
		c = Constant{Entry: entry, Declared: err == api.OK}
		if c.Kind == api.EntryFamily || c.Kind == api.EntryCtor {
			domains, _ := telescope.All(entry.Type)
			c.Domains = len(domains)
		}
		t.known[name] = c
	}
	return c
}

// Constructor returns the constructor that a constructor term with this head and so many arguments has, the number of the arguments that are ahead of the fields, and true; or false if such a term is none.
func (t *Table) Constructor(head api.Term, args int) (Constant, int, bool) {
	if head.Kind != api.Const {
		return Constant{}, 0, false
	}
	c := t.Find(head.Name)
	if !c.Declared || c.Kind != api.EntryCtor || c.Domains != args {
		return Constant{}, 0, false
	}
	return c, t.env[c.Decl].Fixed, true
}

// Scrutinee returns the number of the arguments of a recursor that its rules take ahead of the fields, and the number of the argument that is the scrutinee.
func (t *Table) Scrutinee(rec Constant) (ahead, at int) {
	d := &t.env[rec.Decl]
	ahead = d.Fixed + 1 + len(d.Ctors)
	indices := t.Find(d.Name).Domains - d.Fixed
	return ahead, ahead + indices
}

// Function returns the function by cases that a constant is, and whether it is a usable one.
func (t *Table) Function(head api.Term) (*api.Fun, bool) {
	if head.Kind != api.Const {
		return nil, false
	}
	c := t.Find(head.Name)
	if c.Kind != api.EntryFun || !c.Usable(head.Levels) {
		return nil, false
	}
	return &t.env[c.Decl].Funs[c.Item], true
}

// Branch returns the branch that a split has for a constructor, and whether there is one that is not absurd. Of several ones it is the first.
func Branch(split *api.Tree, ctor string) (*api.Branch, bool) {
	for i := range split.Branches {
		if b := &split.Branches[i]; b.Ctor == ctor {
			return b, !b.Absurd
		}
	}
	return nil, false
}
