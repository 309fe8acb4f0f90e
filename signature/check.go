package signature

import (
	"slices"

	"euclid/api"
	"euclid/fields"
	"euclid/telescope"
	"euclid/term"
)

// Check returns the index of the first declaration of an environment that is not in order, and its error.
func Check(env []api.Decl) (at int, err api.Errno) {
	if len(env) > api.MaxDecls {
		return api.MaxDecls, api.ErrMany
	}
	c := checker{env: env, names: map[string]bool{}, usable: map[string]api.Entry{}}
	defer func() {
		if recover() != nil {
			at, err = c.at, c.err
		}
	}()
	for i := range env {
		c.at = i
		c.decl(&env[i])
	}
	return 0, api.OK
}

// checker checks the declarations of an environment one after another. It stops by a panic at the first error.
type checker struct {
	env    []api.Decl
	names  map[string]bool      // that are declared so far
	usable map[string]api.Entry // the constants that may occur at this place
	at     int                  // the declaration that is being checked
	err    api.Errno
}

func (c *checker) fail(err api.Errno) {
	c.err = err
	panic(err)
}

func (c *checker) failIf(wrong bool, err api.Errno) {
	if wrong {
		c.fail(err)
	}
}

func (c *checker) decl(d *api.Decl) {
	c.failIf(d.Kind < api.DeclAxiom || d.Kind > api.DeclFunctions, api.ErrArg)
	c.failIf(!fields.Decl(*d), api.ErrForm)
	c.numbers(d)
	if d.Kind == api.DeclFamily {
		c.failIf(!agrees(d), api.ErrForm)
	}
	for name := range declared(d) {
		c.failIf(!term.Name(name), api.ErrName)
		c.failIf(c.names[name], api.ErrTwice)
		c.names[name] = true
	}
	switch d.Kind {
	case api.DeclFamily:
		c.family(d)
	case api.DeclFunctions:
		c.functions(d)
	default:
		c.term(d.Type, 0, d.Params)
		if d.Kind != api.DeclAxiom {
			c.term(d.Value, 0, d.Params)
		}
		c.allow(d, api.EntryAxiom, api.EntryDef, api.EntryTheorem)
	}
}

// numbers checks the numbers of a declaration, and how many elements its lists have.
func (c *checker) numbers(d *api.Decl) {
	c.failIf(d.Params < 0 || d.Params > api.MaxParams || d.Fixed < 0, api.ErrRange)
	c.failIf(len(d.Ctors) > api.MaxCtors, api.ErrMany)
	if d.Kind == api.DeclFunctions {
		c.failIf(len(d.Funs) < 1 || len(d.Funs) > api.MaxFuns, api.ErrMany)
	}
	for _, f := range d.Funs {
		c.failIf(f.Arity < 1 || f.Arity > api.MaxArity, api.ErrForm)
	}
}

// agrees reports whether the recursor of a family has a right number of parameters and of rules, and there are types for all fixed parameters.
func agrees(d *api.Decl) bool {
	if d.Rec.Params != d.Params && d.Rec.Params != d.Params+1 || len(d.Rec.Rules) != len(d.Ctors) {
		return false
	}
	for _, ctor := range d.Ctors {
		if !hasDomains(ctor.Type, d.Fixed) {
			return false
		}
	}
	return hasDomains(d.Type, d.Fixed)
}

// hasDomains reports whether a term, which may have any form, has at least n leading function types.
func hasDomains(t api.Term, n int) bool {
	for ; n > 0; n-- {
		if t.Kind != api.Pi || len(t.Kids) != 2 {
			return false
		}
		t = t.Kids[1]
	}
	return true
}

// allow makes the constants of some kinds of entries that a declaration declares usable from now on.
func (c *checker) allow(d *api.Decl, kinds ...int) {
	for name, e := range declared(d) {
		if slices.Contains(kinds, e.Kind) {
			e.Decl = c.at
			c.usable[name] = e
		}
	}
}

func (c *checker) family(d *api.Decl) {
	c.term(d.Type, 0, d.Params)
	c.allow(d, api.EntryFamily)
	for _, ctor := range d.Ctors {
		c.term(ctor.Type, 0, d.Params)
	}
	c.allow(d, api.EntryCtor)
	c.term(d.Rec.Type, 0, d.Rec.Params)
	c.allow(d, api.EntryRec)
	for _, rule := range d.Rec.Rules {
		c.term(rule, 0, d.Rec.Params)
	}
}

func (c *checker) functions(d *api.Decl) {
	for _, f := range d.Funs {
		c.term(f.Type, 0, d.Params)
	}
	c.allow(d, api.EntryFun)
	for i := range d.Funs {
		c.tree(&d.Funs[i].Tree, d.Funs[i].Arity, 0, d.Params)
	}
}

// term checks a term in a context of so many variables.
func (c *checker) term(t api.Term, vars, params int) {
	if err := term.Check(t, vars, params, 0, 0); err != api.OK {
		c.fail(err)
	}
	for constant := range constants(t) {
		e, ok := c.usable[constant.Name]
		c.failIf(!ok, api.ErrNone)
		c.failIf(len(constant.Levels) != e.Params, api.ErrLevel)
	}
}

// tree checks a case tree with so many variables, below so many nodes.
func (c *checker) tree(t *api.Tree, vars, above, params int) {
	c.failIf(above == api.MaxDepth, api.ErrDeep)
	c.failIf(!fields.Tree(t), api.ErrForm)
	if t.Kind == api.TreeLeaf {
		c.term(t.Body, vars, params)
		return
	}
	c.failIf(t.Var < 0 || t.Var >= vars, api.ErrScope)
	c.failIf(len(t.Branches) > api.MaxCtors, api.ErrMany)
	for i := range t.Branches {
		b := &t.Branches[i]
		e, ok := c.usable[b.Ctor]
		c.failIf(!ok || e.Kind != api.EntryCtor, api.ErrNone)
		if b.Absurd {
			c.failIf(!fields.NoTree(&b.Tree), api.ErrForm)
			continue
		}
		domains, _ := telescope.All(e.Type)
		c.tree(&b.Tree, vars+len(domains)-c.env[e.Decl].Fixed, above+1, params)
	}
}
