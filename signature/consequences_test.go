package signature_test

import (
	"fmt"
	"math/rand/v2"
	"slices"
	"testing"

	"euclid/api"
	"euclid/signature"
	"euclid/telescope"
	"euclid/term"
)

// maker makes random environments that are in order.
type maker struct {
	*rand.Rand
	usable []known
	ctors  []known
	names  int
}

// known is a constant with its number of level parameters, and the number of fields of a constructor.
type known struct {
	name           string
	params, fields int
}

func newMaker(seed uint64) *maker { return &maker{Rand: rand.New(rand.NewPCG(7, seed))} }

func (m *maker) name() string {
	m.names++
	return fmt.Sprintf("%c%d", "aF"[m.IntN(2)], m.names)
}

func (m *maker) level(params int) api.Level {
	if params == 0 || m.IntN(2) == 0 {
		return lv(m.IntN(3))
	}
	return u(m.IntN(params), m.IntN(3))
}

func (m *maker) leaf(vars, params int) api.Term {
	switch m.IntN(4) {
	case 0:
		if vars > 0 {
			return x(m.IntN(vars))
		}
	case 1:
		return api.Term{Kind: api.Sort, Levels: []api.Level{m.level(params)}}
	case 2:
		if len(m.usable) > 0 {
			c := m.usable[m.IntN(len(m.usable))]
			t := con(c.name)
			for range c.params {
				t.Levels = append(t.Levels, m.level(params))
			}
			return t
		}
	}
	return tm(api.Prop)
}

func (m *maker) term(depth, vars, params int) api.Term {
	if depth == 0 || m.IntN(4) == 0 {
		return m.leaf(vars, params)
	}
	below := func(more int) api.Term { return m.term(depth-1, vars+more, params) }
	switch m.IntN(4) {
	case 0:
		return tm(api.Pi, below(0), below(1))
	case 1:
		return tm(api.Let, below(0), below(0), below(1))
	case 2:
		return tm(api.Fst, below(0))
	}
	return tm(api.App, below(0), below(0))
}

func (m *maker) tree(depth, vars, params int) api.Tree {
	if depth == 0 || len(m.ctors) == 0 || m.IntN(4) == 0 {
		return leaf(m.term(3, vars, params))
	}
	t := split(m.IntN(vars))
	for range m.IntN(4) {
		c := m.ctors[m.IntN(len(m.ctors))]
		if m.IntN(4) == 0 {
			t.Branches = append(t.Branches, absurd(c.name))
		} else {
			t.Branches = append(t.Branches, branch(c.name, m.tree(depth-1, vars+c.fields, params)))
		}
	}
	return t
}

func (m *maker) allow(name string, params int) {
	m.usable = append(m.usable, known{name: name, params: params})
}

func (m *maker) decl() api.Decl {
	d := api.Decl{Kind: m.IntN(5), Params: m.IntN(4)}
	switch d.Kind {
	case api.DeclFamily:
		m.family(&d)
	case api.DeclFunctions:
		for range 1 + m.IntN(3) {
			d.Funs = append(d.Funs, api.Fun{Name: m.name(), Arity: 1 + m.IntN(16), Type: m.term(3, 0, d.Params)})
		}
		for _, f := range d.Funs {
			m.allow(f.Name, d.Params)
		}
		for i := range d.Funs {
			d.Funs[i].Tree = m.tree(3, d.Funs[i].Arity, d.Params)
		}
	default:
		d.Name, d.Type = m.name(), m.term(4, 0, d.Params)
		if d.Kind != api.DeclAxiom {
			d.Value = m.term(4, 0, d.Params)
		}
		m.allow(d.Name, d.Params)
	}
	return d
}

func (m *maker) family(d *api.Decl) {
	pis := func() api.Term {
		t := m.term(2, 0, d.Params)
		for range d.Fixed {
			t = tm(api.Pi, m.leaf(0, d.Params), t)
		}
		return t
	}
	d.Name, d.Fixed = m.name(), m.IntN(3)
	d.Type = pis()
	m.allow(d.Name, d.Params)
	for i := range m.IntN(4) {
		d.Ctors = append(d.Ctors, api.Ctor{Name: fmt.Sprintf("%s.c%d", d.Name, i), Type: pis()})
	}
	for _, c := range d.Ctors {
		domains, _ := telescope.All(c.Type)
		m.allow(c.Name, d.Params)
		m.ctors = append(m.ctors, known{c.Name, d.Params, len(domains) - d.Fixed})
	}
	d.Rec.Params = d.Params + m.IntN(2)
	d.Rec.Type = m.term(3, 0, d.Rec.Params)
	m.allow(d.Name+".rec", d.Rec.Params)
	for range d.Ctors {
		d.Rec.Rules = append(d.Rec.Rules, m.term(3, 0, d.Rec.Params))
	}
}

func (m *maker) env() []api.Decl {
	var env []api.Decl
	for range 1 + m.IntN(8) {
		env = append(env, m.decl())
	}
	return env
}

// P7.3
func TestConsequences(t *testing.T) {
	for seed := range uint64(500) {
		env := newMaker(seed).env()
		for n := range len(env) + 1 {
			wantCheck(t, "a beginning", env[:n], 0, api.OK)
		}
		for i, d := range env {
			for _, name := range signature.Names(d) {
				e, err := signature.Find(env, name)
				if err != api.OK || e.Decl != i {
					t.Fatalf("Find(%s) in %s: got %s, error %d", name, show(env), show(e), err)
				}
				for j, other := range env {
					if j != i && slices.Contains(signature.Names(other), name) {
						t.Fatalf("%s is declared twice in %s", name, show(env))
					}
				}
			}
			for _, name := range signature.Uses(d) {
				if e, err := signature.Find(env, name); err != api.OK || e.Decl >= i {
					t.Fatalf("declaration %d of %s uses %s, which is not declared before", i, show(env), name)
				}
			}
		}
	}
}

// P7.3
func TestOneMoreAxiom(t *testing.T) {
	for seed := range uint64(200) {
		m := newMaker(seed)
		env := m.env()
		more := append(slices.Clip(env), api.Decl{Name: "new", Type: the("(pi (sort [4]) prop)")})
		wantCheck(t, "one more axiom", more, 0, api.OK)
		for _, c := range append(m.usable, known{name: "none"}) {
			levels := repeated(c.params, u(1, 1))
			for _, list := range [][]api.Level{levels, append(levels, lv(0))} {
				if results(env, c.name, list) != results(more, c.name, list) {
					t.Fatalf("%s has other results if an axiom is added to %s", c.name, show(env))
				}
			}
		}
		if e, err := signature.Find(more, "new"); err != api.OK || e.Kind != api.EntryAxiom || e.Decl != len(env) {
			t.Fatalf("Find of the new axiom: %s, error %d", show(e), err)
		}
	}
}

// results returns what is found of a constant.
func results(env []api.Decl, name string, levels []api.Level) string {
	e, err := signature.Find(env, name)
	a, typeErr := signature.Type(env, name, levels)
	v, hasValue := signature.Value(env, name, levels)
	d, item, isFamily := signature.Family(env, name)
	return fmt.Sprint(e, err, a, typeErr, v, hasValue, d, item, isFamily)
}

// slow checks an environment by the words of the chapter: each rule looks for its error anew.
type slow struct{ env []api.Decl }

func (s slow) check() (int, api.Errno) {
	if len(s.env) > api.MaxDecls {
		return api.MaxDecls, api.ErrMany
	}
	for i, d := range s.env {
		for _, rule := range []func(i int, d api.Decl) api.Errno{s.kind, s.unused, s.numbers, s.family, s.names, s.terms} {
			if err := rule(i, d); err != api.OK {
				return i, err
			}
		}
	}
	return 0, api.OK
}

func (s slow) kind(_ int, d api.Decl) api.Errno {
	if !slices.Contains([]int{0, 1, 2, 3, 4}, d.Kind) {
		return api.ErrArg
	}
	return api.OK
}

func (s slow) unused(_ int, d api.Decl) api.Errno {
	used := [][]string{{"Name", "Params", "Type"}, {"Name", "Params", "Type", "Value"}, {"Name", "Params", "Type", "Value"},
		{"Name", "Params", "Type", "Fixed", "Ctors", "Rec"}, {"Params", "Funs"}}[d.Kind]
	var zero api.Term
	for field, isZero := range map[string]bool{
		"Name": d.Name == "", "Params": d.Params == 0, "Type": term.Same(d.Type, zero), "Value": term.Same(d.Value, zero), "Fixed": d.Fixed == 0,
		"Ctors": len(d.Ctors) == 0, "Funs": len(d.Funs) == 0, "Rec": d.Rec.Params == 0 && term.Same(d.Rec.Type, zero) && len(d.Rec.Rules) == 0,
	} {
		if !isZero && !slices.Contains(used, field) {
			return api.ErrForm
		}
	}
	return api.OK
}

func (s slow) numbers(_ int, d api.Decl) api.Errno {
	switch {
	case d.Params < 0 || d.Params > 8 || d.Fixed < 0:
		return api.ErrRange
	case len(d.Ctors) > 32 || d.Kind == api.DeclFunctions && (len(d.Funs) == 0 || len(d.Funs) > 8):
		return api.ErrMany
	case slices.ContainsFunc(d.Funs, func(f api.Fun) bool { return f.Arity < 1 || f.Arity > 16 }):
		return api.ErrForm
	}
	return api.OK
}

func (s slow) family(_ int, d api.Decl) api.Errno {
	if d.Kind != api.DeclFamily {
		return api.OK
	}
	wrong := d.Rec.Params != d.Params && d.Rec.Params != d.Params+1 || len(d.Rec.Rules) != len(d.Ctors) || leading(d.Type) < d.Fixed
	for _, c := range d.Ctors {
		wrong = wrong || leading(c.Type) < d.Fixed
	}
	if wrong {
		return api.ErrForm
	}
	return api.OK
}

func leading(t api.Term) int {
	if t.Kind == api.Pi && len(t.Kids) == 2 {
		return 1 + leading(t.Kids[1])
	}
	return 0
}

func (s slow) names(i int, d api.Decl) api.Errno {
	names := signature.Names(d)
	for n, name := range names {
		if !term.Name(name) {
			return api.ErrName
		}
		if slices.Contains(names[:n], name) || s.declaredBefore(i, name) >= 0 {
			return api.ErrTwice
		}
	}
	return api.OK
}

// declaredBefore returns the index of the declaration before declaration i that declares a name, or -1.
func (s slow) declaredBefore(i int, name string) int {
	return slices.IndexFunc(s.env[:i], func(d api.Decl) bool { return slices.Contains(signature.Names(d), name) })
}

func (s slow) terms(i int, d api.Decl) api.Errno {
	var errs []api.Errno
	check := func(t api.Term, vars, params int, own ...string) {
		errs = append(errs, s.term(i, t, vars, params, own))
	}
	if d.Kind != api.DeclFunctions {
		check(d.Type, 0, d.Params)
	}
	if d.Kind == api.DeclDef || d.Kind == api.DeclTheorem {
		check(d.Value, 0, d.Params)
	}
	if names := signature.Names(d); d.Kind == api.DeclFamily {
		for _, c := range d.Ctors {
			check(c.Type, 0, d.Params, d.Name)
		}
		check(d.Rec.Type, 0, d.Rec.Params, names[:len(names)-1]...)
		for _, rule := range d.Rec.Rules {
			check(rule, 0, d.Rec.Params, names...)
		}
	}
	for _, f := range d.Funs {
		check(f.Type, 0, d.Params)
	}
	for _, f := range d.Funs {
		errs = append(errs, s.tree(i, d, f.Tree, f.Arity, 0))
	}
	return firstError(errs...)
}

func firstError(errs ...api.Errno) api.Errno {
	for _, err := range errs {
		if err != api.OK {
			return err
		}
	}
	return api.OK
}

func (s slow) term(i int, t api.Term, vars, params int, own []string) api.Errno {
	if err := term.Check(t, vars, params, 0, 0); err != api.OK {
		return err
	}
	return s.constants(i, t, own)
}

func (s slow) constants(i int, t api.Term, own []string) api.Errno {
	var err api.Errno
	if t.Kind == api.Const {
		at := s.declaredBefore(i, t.Name)
		if slices.Contains(own, t.Name) {
			at = i
		}
		switch {
		case at < 0:
			err = api.ErrNone
		case t.Name == s.env[at].Name+".rec" && len(t.Levels) != s.env[at].Rec.Params:
			err = api.ErrLevel
		case t.Name != s.env[at].Name+".rec" && len(t.Levels) != s.env[at].Params:
			err = api.ErrLevel
		}
	}
	errs := []api.Errno{err}
	for _, kid := range t.Kids {
		errs = append(errs, s.constants(i, kid, own))
	}
	return firstError(errs...)
}

func (s slow) tree(i int, d api.Decl, t api.Tree, vars, above int) api.Errno {
	switch {
	case above >= 200:
		return api.ErrDeep
	case t.Kind != api.TreeLeaf && t.Kind != api.TreeSplit,
		t.Kind == api.TreeLeaf && (t.Var != 0 || len(t.Branches) > 0),
		t.Kind == api.TreeSplit && !term.Same(t.Body, api.Term{}):
		return api.ErrForm
	case t.Kind == api.TreeLeaf:
		return s.term(i, t.Body, vars, d.Params, signature.Names(d))
	case t.Var < 0 || t.Var >= vars:
		return api.ErrScope
	case len(t.Branches) > 32:
		return api.ErrMany
	}
	var errs []api.Errno
	for _, b := range t.Branches {
		family, ctor := -1, -1
		for j, e := range s.env[:i] {
			if at := slices.IndexFunc(e.Ctors, func(c api.Ctor) bool { return c.Name == b.Ctor }); at >= 0 {
				family, ctor = j, at
			}
		}
		switch {
		case family < 0:
			errs = append(errs, api.ErrNone)
		case !b.Absurd:
			errs = append(errs, s.tree(i, d, b.Tree, vars+leading(s.env[family].Ctors[ctor].Type)-s.env[family].Fixed, above+1))
		case fmt.Sprint(b.Tree) != fmt.Sprint(api.Tree{}):
			errs = append(errs, api.ErrForm)
		}
	}
	return firstError(errs...)
}

// damage changes something in a declaration.
func (m *maker) damage(d *api.Decl) {
	name := func() string {
		return []string{"none", "", d.Name, m.usable[m.IntN(len(m.usable))].name, m.usable[m.IntN(len(m.usable))].name}[m.IntN(5)]
	}
	switch m.IntN(12) {
	case 0:
		d.Kind = m.IntN(7) - 1
	case 1:
		d.Params += m.IntN(3) - 1
	case 2:
		d.Fixed += m.IntN(3) - 1
	case 3:
		d.Rec.Params += m.IntN(3) - 1
	case 4:
		d.Name = name()
	case 5:
		m.damageTerm(&d.Type, name())
	case 6:
		m.damageTerm(&d.Value, name())
	case 7:
		if len(d.Ctors) > 0 {
			c := &d.Ctors[m.IntN(len(d.Ctors))]
			if m.IntN(2) == 0 {
				c.Name = name()
			} else {
				m.damageTerm(&c.Type, name())
			}
		}
	case 8:
		m.damageTerm(&d.Rec.Type, name())
	case 9:
		if len(d.Rec.Rules) > 0 {
			m.damageTerm(&d.Rec.Rules[m.IntN(len(d.Rec.Rules))], name())
		}
	default:
		if len(d.Funs) > 0 {
			m.damageFun(&d.Funs[m.IntN(len(d.Funs))], name())
		}
	}
}

func (m *maker) damageFun(f *api.Fun, name string) {
	switch m.IntN(8) {
	case 0:
		f.Name = name
	case 1:
		f.Arity += m.IntN(5) - 2
	case 2:
		m.damageTerm(&f.Type, name)
	default:
		m.damageTree(&f.Tree, name)
	}
}

func (m *maker) damageTree(t *api.Tree, name string) {
	for len(t.Branches) > 0 && m.IntN(3) > 0 {
		b := &t.Branches[m.IntN(len(t.Branches))]
		if m.IntN(5) == 0 {
			b.Ctor = name
			return
		}
		if m.IntN(5) == 0 {
			b.Absurd = !b.Absurd
			return
		}
		t = &b.Tree
	}
	switch m.IntN(4) {
	case 0:
		t.Kind = m.IntN(4) - 1
	case 1:
		t.Var += m.IntN(5) - 2
	case 2:
		t.Branches = append(t.Branches, absurd(name))
	default:
		m.damageTerm(&t.Body, name)
	}
}

func (m *maker) damageTerm(t *api.Term, name string) {
	for len(t.Kids) > 0 && m.IntN(3) > 0 {
		t = &t.Kids[m.IntN(len(t.Kids))]
	}
	switch m.IntN(6) {
	case 0:
		t.Index += m.IntN(3) - 1
	case 1:
		*t = con(name)
	case 2:
		t.Levels = append(t.Levels, []api.Level{m.level(6), u(-1, 0)}[m.IntN(2)])
	case 3:
		t.Kind = m.IntN(15) - 1
	default:
		*t = m.term(2, 3, 3)
	}
}

// P7.1: Check agrees with the words of the chapter for environments that are damaged somewhere.
func TestDamaged(t *testing.T) {
	counts := map[api.Errno]int{}
	for seed := range uint64(20000) {
		m := newMaker(seed)
		env := m.env()
		if len(m.usable) == 0 {
			continue
		}
		for range 1 + m.IntN(3) {
			m.damage(&env[m.IntN(len(env))])
		}
		at, err := slow{env}.check()
		counts[err]++
		wantCheck(t, show(env), env, at, err)
	}
	for _, err := range []api.Errno{api.OK, api.ErrArg, api.ErrForm, api.ErrRange, api.ErrName, api.ErrTwice, api.ErrNone, api.ErrLevel, api.ErrScope, api.ErrMeta} {
		if counts[err] < 20 {
			t.Errorf("error %d came up %d times only", err, counts[err])
		}
	}
}
