package typing_test

import (
	"math/rand/v2"
	"slices"

	"euclid/api"
	"euclid/conv"
	"euclid/reduce"
	"euclid/sample"
	"euclid/subst"
	"euclid/telescope"
	"euclid/typing"
)

// maker makes random terms in the environment.
type maker struct{ IntN func(n int) int }

func newMaker(seed uint64) maker { return maker{rand.New(rand.NewPCG(11, seed)).IntN} }

func (m maker) one(of ...string) api.Term { return the(of[m.IntN(len(of))]) }

// context returns a context.
func (m maker) context() []api.Term {
	ctx := read("(sort [0])", "#0", "Nat", "{F #0}")
	for range m.IntN(4) {
		ctx = append(ctx, m.typeIn(ctx, m.IntN(3)))
	}
	return ctx
}

// typeIn returns a type, mostly one that has elements.
func (m maker) typeIn(ctx []api.Term, depth int) api.Term {
	if depth <= 0 {
		return m.one("Nat", "Nat", "A", "P", "prop", "(sort [0])", "{(const Eq [0]) Nat 2 two}", "{F two}", "{(const Vec [0]) Nat 1}")
	}
	first := m.typeIn(ctx, depth-1)
	number := func() api.Term { return m.term(ctx, con("Nat"), depth-1) }
	switch m.IntN(11) {
	case 0, 1, 2:
		return tm(api.Pi, first, m.typeIn(with(ctx, first), depth-1))
	case 3, 4:
		return tm(api.Sigma, first, m.typeIn(with(ctx, first), depth-1))
	case 5:
		n := number()
		return ap(the("{(const Eq [0]) Nat}"), n, n)
	case 6:
		return ap(con("F"), number())
	case 7:
		return ap(con("Tuple"), number())
	case 8:
		return ap(the("{(const Vec [0]) Nat}"), number())
	case 9:
		return m.term(ctx, m.one("(sort [0])", "(sort [0])", "prop"), depth-1)
	}
	return first
}

// term returns a term of a type, as far as one is found.
func (m maker) term(ctx []api.Term, want api.Term, depth int) api.Term {
	if depth > 0 && m.IntN(3) == 0 {
		return m.redex(ctx, want, depth)
	}
	if depth >= 0 && m.IntN(2) == 0 {
		if v, ok := m.variable(ctx, want); ok {
			return v
		}
	}
	want, err := reduce.Whnf(env, want)
	if err != api.OK {
		return con("none")
	}
	switch want.Kind {
	case api.Pi:
		return tm(api.Lam, want.Kids[0], m.term(with(ctx, want.Kids[0]), want.Kids[1], depth-1))
	case api.Sigma:
		first := m.term(ctx, want.Kids[0], depth-1)
		return tm(api.Pair, want, first, m.term(ctx, put(want.Kids[1], first), depth-1))
	case api.Prop:
		if depth > 0 && m.IntN(2) == 0 {
			return tm(api.Pi, con("Nat"), m.term(with(ctx, con("Nat")), want, depth-1))
		}
		return m.one("P", "False", "{(const Eq [0]) Nat 2 two}", "(pi prop #0)", "{(const Eq [1]) (sort [0]) Nat Nat}")
	case api.Sort:
		return m.typeIn(ctx, min(1, depth-1))
	}
	return m.element(ctx, want, depth)
}

// redex returns a term of a type that can be reduced.
func (m maker) redex(ctx []api.Term, want api.Term, depth int) api.Term {
	other := m.typeIn(ctx, 1)
	value := m.term(ctx, other, depth-1)
	switch m.IntN(5) {
	case 0:
		return tm(api.Let, other, value, m.term(with(ctx, other), up(want), depth-1))
	case 1:
		return ap(tm(api.Lam, other, m.term(with(ctx, other), up(want), depth-1)), value)
	case 2:
		return tm(api.Fst, tm(api.Pair, tm(api.Sigma, want, up(other)), m.term(ctx, want, depth-1), value))
	case 3:
		return tm(api.Snd, tm(api.Pair, tm(api.Sigma, other, up(want)), value, m.term(ctx, want, depth-1)))
	}
	sort, _ := typing.SortOf(env, ctx, want)
	if sort.Kind != api.Sort {
		return m.term(ctx, want, depth-1)
	}
	return ap(con("id", sort.Levels[0]), want, m.term(ctx, want, depth-1))
}

// variable returns a variable of a type, or something that is got from a variable.
func (m maker) variable(ctx []api.Term, want api.Term) (api.Term, bool) {
	for i := range ctx {
		v := x((i + m.IntN(len(ctx))) % len(ctx))
		for range 3 {
			of, err := typing.Infer(env, ctx, v)
			if ok, _ := conv.Sub(env, of, want); err == api.OK && ok {
				return v, true
			}
			of, _ = reduce.Whnf(env, of)
			switch {
			case of.Kind == api.Pi:
				v = ap(v, m.term(ctx, of.Kids[0], -1))
			case of.Kind == api.Sigma:
				v = tm(api.Fst+m.IntN(2), v)
			}
		}
	}
	return api.Term{}, false
}

// element returns a term of a type that is an application.
func (m maker) element(ctx []api.Term, want api.Term, depth int) api.Term {
	head, args := telescope.Spine(want)
	switch {
	case head.Name == "Nat":
		return m.number(ctx, depth-1)
	case head.Name == "Eq" && len(args) == 3:
		return ap(con("Eq.refl", head.Levels...), args[0], args[m.IntN(2)+1])
	case head.Name == "F" && len(args) == 1:
		return ap(con("f"), args[0])
	case head.Name == "Vec" && len(args) == 2:
		length, _ := reduce.Whnf(env, args[1])
		if length.Kind != api.App {
			return ap(con("Vec.nil", head.Levels...), args[0])
		}
		n := length.Kids[1]
		return ap(con("Vec.cons", head.Levels...), args[0], n, m.term(ctx, args[0], depth-1), m.term(ctx, ap(head, args[0], n), depth-1))
	}
	return m.one("a", "a", "p", "p", "#0", "{(const False.rec [0]) (lam False Nat)}")
}

func (m maker) number(ctx []api.Term, depth int) api.Term {
	if depth <= 0 {
		if depth == 0 {
			if v, ok := m.variable(ctx, con("Nat")); ok {
				return v
			}
		}
		return m.one("0", "1", "two", "2", "{plus 1 1}", "{plus 0 two}")
	}
	n := func() api.Term { return m.number(ctx, depth-1) }
	switch m.IntN(6) {
	case 0:
		return ap(con("plus"), n(), n())
	case 1:
		return ap(con("Nat.succ"), m.term(ctx, con("Nat"), depth))
	case 2:
		return ap(the("{(const Nat.rec [0]) (lam Nat Nat)}"), n(), the("(lam Nat plus)"), n())
	case 3:
		return tm(api.Fst, m.term(ctx, ap(con("Tuple"), numeral(1)), depth))
	case 4:
		return ap(m.term(ctx, the("(pi Nat Nat)"), depth), n())
	}
	return m.term(ctx, con("Nat"), depth)
}

// damaged returns a term in which a node is replaced.
func (m maker) damaged(t api.Term) api.Term {
	kids := len(t.Kids)
	if kids > 0 && m.IntN(6) > 0 {
		i := m.IntN(kids)
		t.Kids = slices.Clone(t.Kids)
		t.Kids[i] = m.damaged(t.Kids[i])
		return t
	}
	switch m.IntN(6) {
	case 0:
		return ap(t, m.one("0", "#0", "Nat", "P"))
	case 1:
		return tm(api.Fst+m.IntN(2), t)
	case 2:
		if kids > 0 {
			return t.Kids[m.IntN(kids)]
		}
	case 3:
		return m.one("none", "?0", "(sort [100])", "(const Nat [0])", "{loop 0}", "{Spin 0}")
	case 4:
		return ap(con("Nat.succ"), t)
	}
	return m.one("0", "two", "Nat", "prop", "p", "P", "#0", "#1", "#2", "(lam Nat #0)", "(pi Nat #1)", "{F #0}", "(sort [0])", "(pair (sigma Nat Nat) 1 #0)")
}

// read reads the elements of a telescope.
func read(sources ...string) []api.Term {
	var tel []api.Term
	for _, source := range sources {
		tel = append(tel, the(source))
	}
	return tel
}

// with returns a context with one more variable.
func with(ctx []api.Term, of api.Term) []api.Term { return append(slices.Clip(ctx), of) }

func put(t api.Term, values ...api.Term) api.Term { return sample.Put(t, values...) }

// up returns a term shifted by 1.
func up(t api.Term) api.Term {
	result, err := subst.Shift(t, 1, 0)
	if err != api.OK {
		panic(err)
	}
	return result
}
