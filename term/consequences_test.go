package term_test

import (
	"maps"
	"math/rand/v2"
	"slices"
	"testing"

	"euclid/api"
	"euclid/level"
	"euclid/term"
)

// place is a node of a term and the number of binders above it.
type place struct {
	t       api.Term
	binders int
}

// places lists the nodes of a term in preorder.
func places(t api.Term, binders int) []place {
	list := []place{{t, binders}}
	for i, kid := range t.Kids {
		list = append(list, places(kid, binders+added(t.Kind, i))...)
	}
	return list
}

func added(kind, kid int) int {
	if kid == 1 && (kind == api.Lam || kind == api.Pi || kind == api.Sigma) || kid == 2 && kind == api.Let {
		return 1
	}
	return 0
}

func height(t api.Term) int {
	h := 0
	for _, kid := range t.Kids {
		h = max(h, height(kid))
	}
	return h + 1
}

// nodeError applies the rules of Check to one node, word by word.
func nodeError(p place, s scope) api.Errno {
	t := p.t
	noIndex, noName, noLevels := t.Index == 0, t.Name == "", len(t.Levels) == 0
	form := false
	switch t.Kind {
	case api.Var, api.Meta:
		form = noName && noLevels && len(t.Kids) == 0
	case api.Prop:
		form = noIndex && noName && noLevels && len(t.Kids) == 0
	case api.Sort:
		form = noIndex && noName && len(t.Levels) == 1 && len(t.Kids) == 0
	case api.Const:
		form = noIndex && len(t.Kids) == 0
	case api.App, api.Lam, api.Pi, api.Sigma:
		form = noIndex && noName && noLevels && len(t.Kids) == 2
	case api.Pair, api.Let:
		form = noIndex && noName && noLevels && len(t.Kids) == 3
	case api.Fst, api.Snd:
		form = noIndex && noName && noLevels && len(t.Kids) == 1
	}
	if !form {
		return api.ErrForm
	}
	if t.Kind == api.Const && !term.Name(t.Name) {
		return api.ErrName
	}
	if t.Kind == api.Const && len(t.Levels) > api.MaxParams {
		return api.ErrMany
	}
	for _, l := range t.Levels {
		if !level.Valid(l) {
			return api.ErrForm
		}
		if slices.ContainsFunc(l.Vars, func(v api.LevelVar) bool { return v.Index >= max(0, s.params) }) {
			return api.ErrLevel
		}
		if slices.ContainsFunc(l.Vars, func(v api.LevelVar) bool { return -1-v.Index >= max(0, s.levels) }) {
			return api.ErrMeta
		}
	}
	if t.Kind == api.Var && (t.Index < 0 || t.Index >= max(0, s.vars)+p.binders) {
		return api.ErrScope
	}
	if t.Kind == api.Meta && (t.Index < 0 || t.Index >= max(0, s.metas)) {
		return api.ErrMeta
	}
	return api.OK
}

func checkError(t api.Term, s scope) api.Errno {
	all := places(t, 0)
	for _, p := range all {
		if err := nodeError(p, s); err != api.OK {
			return err
		}
	}
	if len(all) > api.MaxNodes {
		return api.ErrLong
	}
	if height(t) > api.MaxDepth {
		return api.ErrDeep
	}
	return api.OK
}

func freeVars(t api.Term) []int {
	found := map[int]bool{}
	for _, p := range places(t, 0) {
		if p.t.Kind == api.Var && p.t.Index >= p.binders {
			found[p.t.Index-p.binders] = true
		}
	}
	return slices.Sorted(maps.Keys(found))
}

// maker makes random terms.
type maker struct {
	*rand.Rand
	wild bool // whether terms may have errors
}

func (m maker) odd() bool { return m.wild && m.IntN(40) == 0 }

func (m maker) level() api.Level {
	if m.odd() {
		return []api.Level{lv(-1), lv(101), lv(0, v(8, 0)), lv(1, v(0, 2)), lv(0, v(1, 0), v(0, 0))}[m.IntN(5)]
	}
	l := lv(m.IntN(4))
	for range m.IntN(3) {
		more, _ := level.Var(m.IntN(6)-3, m.IntN(3))
		l, _ = level.Max(l, more)
	}
	return l
}

func (m maker) levels(n int) []api.Level {
	var list []api.Level
	for range n {
		list = append(list, m.level())
	}
	return list
}

func (m maker) leaf(binders int) api.Term {
	switch m.IntN(6) {
	case 0:
		return meta(m.IntN(4))
	case 1:
		return sort(m.level())
	case 2:
		return con([]string{"a", "b.c", "Nat"}[m.IntN(3)], m.levels(m.IntN(3))...)
	case 3:
		return prop
	}
	return x(m.IntN(binders + 3))
}

func (m maker) term(depth, binders int) api.Term {
	t := api.Term{Kind: api.App + m.IntN(api.Let-api.App+1)}
	if depth <= 1 || m.IntN(8) == 0 {
		t = m.leaf(binders)
	} else {
		kids := map[int]int{api.Pair: 3, api.Let: 3, api.Fst: 1, api.Snd: 1}[t.Kind]
		if kids == 0 {
			kids = 2
		}
		if m.odd() {
			kids = m.IntN(5)
		}
		for i := range kids {
			t.Kids = append(t.Kids, m.term(depth-1, binders+added(t.Kind, i)))
		}
	}
	if m.odd() {
		t.Kind = m.IntN(16) - 1
	}
	if m.odd() {
		t.Index = m.IntN(9) - 4
	}
	if m.odd() {
		t.Name = []string{"", "a", "1", "a."}[m.IntN(4)]
	}
	if m.odd() {
		t.Levels = m.levels(m.IntN(11))
	}
	return t
}

func (m maker) scope() scope {
	return scope{m.IntN(5) - 1, m.IntN(5) - 1, m.IntN(6) - 1, m.IntN(6) - 1}
}

// P3.1, P3.2: for random terms, with and without errors, the results are those of the definitions.
func TestDefinitions(t *testing.T) {
	r := rand.New(rand.NewPCG(3, 1))
	counts := map[api.Errno]int{}
	for range 20000 {
		m := maker{r, r.IntN(2) == 0}
		a, s := m.term(1+m.IntN(7), 0), m.scope()
		want := checkError(a, s)
		counts[want]++
		wantCheck(t, a, s, want)
		all := places(a, 0)
		if term.Size(a) != len(all) || term.Depth(a) != height(a) {
			t.Fatalf("Size and Depth of %v are %d and %d", a, term.Size(a), term.Depth(a))
		}
		free := freeVars(a)
		if !slices.Equal(term.Free(a), free) {
			t.Fatalf("Free(%v) = %v", a, term.Free(a))
		}
		for i := range 8 {
			if term.Occurs(a, i-2) != slices.Contains(free, i-2) {
				t.Fatalf("Occurs(%v, %d) = %v", a, i-2, term.Occurs(a, i-2))
			}
		}
		var consts []string
		var metas []int
		for _, p := range all {
			if p.t.Kind == api.Const && !slices.Contains(consts, p.t.Name) {
				consts = append(consts, p.t.Name)
			}
			if p.t.Kind == api.Meta && !slices.Contains(metas, p.t.Index) {
				metas = append(metas, p.t.Index)
			}
		}
		if !slices.Equal(term.Consts(a), consts) || !slices.Equal(term.Metas(a), metas) {
			t.Fatalf("Consts and Metas of %v are %v and %v", a, term.Consts(a), term.Metas(a))
		}
	}
	for _, err := range []api.Errno{api.OK, api.ErrForm, api.ErrName, api.ErrMany, api.ErrLevel, api.ErrMeta, api.ErrScope} {
		if counts[err] < 5 {
			t.Errorf("error %d came up %d times only", err, counts[err])
		}
	}
}

// P3.3
func TestGreaterScopes(t *testing.T) {
	r := rand.New(rand.NewPCG(3, 2))
	accepted := 0
	for range 20000 {
		m := maker{r, r.IntN(8) == 0}
		a, s := m.term(1+m.IntN(5), 0), m.scope()
		if check(a, s) != api.OK {
			continue
		}
		accepted++
		for _, greater := range []scope{
			{s.vars + 1, s.params, s.metas, s.levels}, {s.vars, s.params + 1, s.metas, s.levels},
			{s.vars, s.params, s.metas + 1, s.levels}, {s.vars, s.params, s.metas, s.levels + 1},
			{s.vars + 70000, s.params + 8, s.metas + 70000, s.levels + 70000},
		} {
			wantCheck(t, a, greater, api.OK)
		}
		for i, kid := range a.Kids {
			wantCheck(t, kid, scope{max(0, s.vars) + added(a.Kind, i), s.params, s.metas, s.levels}, api.OK)
		}
		for _, i := range term.Free(a) {
			if i >= s.vars {
				t.Fatalf("%v has the free variable %d, but Check accepts it with %d variables", a, i, s.vars)
			}
		}
	}
	if accepted < 1000 {
		t.Errorf("only %d terms are accepted", accepted)
	}
}

// copied returns an equal term; its empty lists are not nil.
func copied(t api.Term) api.Term {
	c := api.Term{Kind: t.Kind, Index: t.Index, Name: t.Name, Levels: []api.Level{}, Kids: []api.Term{}}
	for _, l := range t.Levels {
		c.Levels = append(c.Levels, api.Level{Const: l.Const, Vars: append([]api.LevelVar{}, l.Vars...)})
	}
	for _, kid := range t.Kids {
		c.Kids = append(c.Kids, copied(kid))
	}
	return c
}

// P3.3
func TestEqualTerms(t *testing.T) {
	r := rand.New(rand.NewPCG(3, 3))
	for range 3000 {
		m := maker{r, r.IntN(2) == 0}
		a, b := m.term(1+m.IntN(6), 0), m.term(1+m.IntN(3), 0)
		c, s := copied(a), m.scope()
		if !term.Same(a, c) || !term.Same(c, a) {
			t.Fatalf("%v is not the same as its copy", a)
		}
		if term.Same(a, b) != term.Same(b, a) {
			t.Fatalf("Same is not symmetric for %v and %v", a, b)
		}
		if term.Size(a) != term.Size(c) || term.Depth(a) != term.Depth(c) || check(a, s) != check(c, s) ||
			!slices.Equal(term.Free(a), term.Free(c)) || !slices.Equal(term.Consts(a), term.Consts(c)) || !slices.Equal(term.Metas(a), term.Metas(c)) {
			t.Fatalf("the copy of %v has other results", a)
		}
		// One change anywhere makes a difference.
		n := m.IntN(term.Size(a))
		at := &c
		for _, i := range path(a, n) {
			at = &at.Kids[i]
		}
		switch m.IntN(4) {
		case 0:
			at.Index++
		case 1:
			at.Name += "x"
		case 2:
			at.Kind += 17
		case 3:
			at.Levels = append(at.Levels, lv(0))
		}
		if term.Same(a, c) {
			t.Fatalf("%v and %v are the same", a, c)
		}
	}
}

// path returns the way from the root of a term to node n in preorder.
func path(t api.Term, n int) []int {
	if n == 0 {
		return nil
	}
	n--
	for i, kid := range t.Kids {
		size := len(places(kid, 0))
		if n < size {
			return append([]int{i}, path(kid, n)...)
		}
		n -= size
	}
	return nil
}
