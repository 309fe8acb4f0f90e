package subst_test

import "euclid/api"

// named is a term whose variables are free variables with their numbers, or
// refer to the node that binds them. On such terms a substitution need not
// shift anything, so that they define what the functions have to return.
type named struct {
	api.Term // without the kids
	kids     []*named
	binder   *named // of a bound variable
	free     int    // the number of a free variable
	moved    bool   // whether this free variable is moved
}

func (n *named) isFree() bool { return n.Kind == api.Var && n.binder == nil }

// binds reports whether a kid is below a binder.
func binds(kind, kid int) bool {
	return kid == 1 && (kind == api.Lam || kind == api.Pi || kind == api.Sigma) || kid == 2 && kind == api.Let
}

func toNamed(t api.Term, binders []*named) *named {
	n := &named{Term: api.Term{Kind: t.Kind, Index: t.Index, Name: t.Name, Levels: t.Levels}}
	if t.Kind == api.Var {
		n.Index = 0
		if t.Index < len(binders) {
			n.binder = binders[len(binders)-1-t.Index]
		} else {
			n.free = t.Index - len(binders)
		}
	}
	for i, kid := range t.Kids {
		below := binders
		if binds(t.Kind, i) {
			below = append(append([]*named{}, binders...), n)
		}
		n.kids = append(n.kids, toNamed(kid, below))
	}
	return n
}

// toTerm returns the term, and whether all variables that were moved have a small enough Index.
func (n *named) toTerm(binders []*named) (api.Term, bool) {
	t, ok := n.Term, true
	if n.isFree() {
		t.Index = n.free + len(binders)
		ok = !n.moved || t.Index <= 65535
	} else if n.Kind == api.Var {
		for t.Index = 0; binders[len(binders)-1-t.Index] != n.binder; t.Index++ {
		}
	}
	for i, kid := range n.kids {
		below := binders
		if binds(t.Kind, i) {
			below = append(append([]*named{}, binders...), n)
		}
		k, kidOK := kid.toTerm(below)
		t.Kids = append(t.Kids, k)
		ok = ok && kidOK
	}
	return t, ok
}

// replaced puts something in the place of free variables.
func (n *named) replaced(with func(free *named) *named) *named {
	if n.isFree() {
		return with(n)
	}
	for i, kid := range n.kids {
		n.kids[i] = kid.replaced(with)
	}
	return n
}

func freeVar(index int, moved bool) *named {
	return &named{Term: api.Term{Kind: api.Var}, free: index, moved: moved}
}

func size(t api.Term) int {
	n := 1
	for _, kid := range t.Kids {
		n += size(kid)
	}
	return n
}

func height(t api.Term) int {
	h := 0
	for _, kid := range t.Kids {
		h = max(h, height(kid))
	}
	return h + 1
}

// wantShift is Shift as it is defined.
func wantShift(t api.Term, by, from int) (api.Term, api.Errno) {
	if from < 0 || by < -65536 || by > 65536 {
		return api.Term{}, api.ErrRange
	}
	inScope := true
	n := toNamed(t, nil).replaced(func(free *named) *named {
		if free.free < from {
			return free
		}
		if by < 0 && free.free <= from-by-1 {
			inScope = false
		}
		return freeVar(free.free+by, true)
	})
	result, ok := n.toTerm(nil)
	if !ok || !inScope {
		return api.Term{}, api.ErrScope
	}
	return result, api.OK
}

// wantUnder is Under as it is defined.
func wantUnder(t api.Term, values []api.Term, depth int) (api.Term, api.Errno) {
	if depth < 0 {
		return api.Term{}, api.ErrRange
	}
	n := toNamed(t, nil).replaced(func(free *named) *named {
		switch {
		case free.free < depth:
			return free
		case free.free >= depth+len(values):
			return freeVar(free.free-len(values), true)
		}
		return toNamed(values[free.free-depth], nil).replaced(func(free *named) *named { return freeVar(free.free+depth, true) })
	})
	result, ok := n.toTerm(nil)
	switch {
	case size(result) > 4096:
		return api.Term{}, api.ErrLong
	case !ok:
		return api.Term{}, api.ErrScope
	case height(result) > 200:
		return api.Term{}, api.ErrDeep
	}
	return result, api.OK
}

// wantRename is Rename as it is defined.
func wantRename(t api.Term, to []int) (api.Term, api.Errno) {
	inScope := true
	n := toNamed(t, nil).replaced(func(free *named) *named {
		if free.free >= len(to) || to[free.free] < 0 {
			inScope = false
			return free
		}
		return freeVar(to[free.free], true)
	})
	result, ok := n.toTerm(nil)
	if !ok || !inScope {
		return api.Term{}, api.ErrScope
	}
	return result, api.OK
}

// equal reports whether two terms with names are equal; pairs has the binders of the second one for those of the first.
func (n *named) equal(m *named, pairs map[*named]*named) bool {
	if n.Kind != m.Kind || n.Index != m.Index || n.Name != m.Name || len(n.Levels) != len(m.Levels) || len(n.kids) != len(m.kids) {
		return false
	}
	for i, l := range n.Levels {
		if l.Const != m.Levels[i].Const || len(l.Vars) != len(m.Levels[i].Vars) {
			return false
		}
		for j, v := range l.Vars {
			if v != m.Levels[i].Vars[j] {
				return false
			}
		}
	}
	if n.Kind == api.Var && (n.isFree() != m.isFree() || n.isFree() && n.free != m.free || !n.isFree() && pairs[n.binder] != m.binder) {
		return false
	}
	pairs[n] = m
	for i, kid := range n.kids {
		if !kid.equal(m.kids[i], pairs) {
			return false
		}
	}
	return true
}

// wantAbstract is Abstract as it is defined.
func wantAbstract(t, part api.Term) (api.Term, int, api.Errno) {
	p, found := toNamed(part, nil), 0
	var abstract func(n *named, depth int) *named
	abstract = func(n *named, depth int) *named {
		_, err := wantShift(part, depth, 0)
		if err == api.OK && n.equal(p, map[*named]*named{}) {
			found++
			return freeVar(0, true)
		}
		if n.isFree() {
			return freeVar(n.free+1, true)
		}
		for i, kid := range n.kids {
			below := depth
			if binds(n.Kind, i) {
				below++
			}
			n.kids[i] = abstract(kid, below)
		}
		return n
	}
	result, ok := abstract(toNamed(t, nil), 0).toTerm(nil)
	if !ok {
		return api.Term{}, 0, api.ErrScope
	}
	return result, found, api.OK
}
