package term_test

import (
	"fmt"
	"math"
	"slices"
	"strings"
	"testing"

	"euclid/api"
	"euclid/level"
	"euclid/term"
)

func lv(constant int, vars ...api.LevelVar) api.Level {
	return api.Level{Const: constant, Vars: vars}
}

func v(index, plus int) api.LevelVar { return api.LevelVar{Index: index, Plus: plus} }

// tm builds a term of a kind that has only kids, without any check.
func tm(kind int, kids ...api.Term) api.Term { return api.Term{Kind: kind, Kids: kids} }

func x(index int) api.Term { return api.Term{Kind: api.Var, Index: index} }

func meta(index int) api.Term { return api.Term{Kind: api.Meta, Index: index} }

func con(name string, levels ...api.Level) api.Term {
	return api.Term{Kind: api.Const, Name: name, Levels: levels}
}

func sort(l api.Level) api.Term { return api.Term{Kind: api.Sort, Levels: []api.Level{l}} }

var (
	prop = tm(api.Prop)
	nat  = con("Nat")
)

// leaning returns a term with a number of applications that lean to one side.
func leaning(apps int, right bool) api.Term {
	t := prop
	for range apps {
		if right {
			t = tm(api.App, prop, t)
		} else {
			t = tm(api.App, t, prop)
		}
	}
	return t
}

// bushy returns a term of a depth with as many nodes as possible for applications only.
func bushy(depth int) api.Term {
	if depth == 1 {
		return prop
	}
	return tm(api.App, bushy(depth-1), bushy(depth-1))
}

// P3.1
func TestName(t *testing.T) {
	for _, s := range []string{
		"Nat.rec", "x1", "_a.b'", "a", "Z", "_", "__", "_1", "a'", "a'.b", "a.b.c", "x'1_", "azAZ09_'", "A._._0",
		strings.Repeat("a", 64), strings.Repeat("a.", 31) + "ab",
	} {
		if !term.Name(s) {
			t.Errorf("%q is a name", s)
		}
	}
	for _, s := range []string{
		"", ".", "a.", ".a", "a..b", "1a", "1", "'", "'a", "a.1", "a.'", "a b", " a", "a ", "a-b", "a\x00", "ä", "aé", "λ", "a\xff",
		"a@", "a[", "a`", "a{", "a/", "a:", "@", "[", "`", "{", "a\n", "a.b.", "a.b..c", "a,b", "a(", "a\"",
		strings.Repeat("a", 65), strings.Repeat("a.", 32) + "a", strings.Repeat("a", 100000),
	} {
		if term.Name(s) {
			t.Errorf("%q is no name", s)
		}
	}
}

// scope has the last arguments of Check.
type scope struct{ vars, params, metas, levels int }

func check(t api.Term, s scope) api.Errno { return term.Check(t, s.vars, s.params, s.metas, s.levels) }

func wantCheck(t *testing.T, what api.Term, s scope, want api.Errno) {
	t.Helper()
	if err := check(what, s); err != want {
		t.Errorf("Check(%.300s, %v): error %d, want %d", fmt.Sprint(what), s, err, want)
	}
}

var none scope

// P3.1
func TestCheckAccepts(t *testing.T) {
	for _, c := range []struct {
		t api.Term
		s scope
	}{
		{prop, none},
		{prop, scope{-1, -5, math.MinInt, -1}},
		{nat, none},
		{con("Eq", lv(0), lv(100)), none},
		{con("f", lv(0), lv(1), lv(2), lv(3), lv(4), lv(5), lv(6), lv(7)), none},
		{con("f", lv(2, v(-3, 0), v(1, 1))), scope{0, 2, 0, 3}},
		{sort(lv(0)), none},
		{sort(lv(0, v(0, 1))), scope{0, 1, 0, 0}},
		{sort(lv(0, v(-65536, 0), v(7, 0))), scope{0, 8, 0, 65536}},
		{x(0), scope{vars: 1}},
		{x(4), scope{vars: 5}},
		{x(math.MaxInt - 1), scope{vars: math.MaxInt}},
		{tm(api.Lam, x(0), x(1)), scope{vars: 1}},
		{tm(api.Lam, nat, x(0)), none},
		{tm(api.Pi, nat, x(0)), none},
		{tm(api.Sigma, nat, x(0)), none},
		{tm(api.Let, nat, nat, x(0)), none},
		{tm(api.Lam, nat, tm(api.Let, x(0), x(0), x(1))), none},
		{tm(api.Lam, nat, x(math.MaxInt)), scope{vars: math.MaxInt}},
		{tm(api.Lam, nat, tm(api.App, x(0), x(1))), scope{vars: 1}},
		{tm(api.Pair, nat, x(0), x(1)), scope{vars: 2}},
		{tm(api.Fst, x(0)), scope{vars: 1}},
		{tm(api.Snd, x(0)), scope{vars: 1}},
		{tm(api.App, nat, prop), none},
		{meta(0), scope{metas: 1}},
		{meta(9), scope{metas: 10}},
		{api.Term{Kind: api.Prop, Levels: []api.Level{}, Kids: []api.Term{}}, none},
		{leaning(199, true), none},
		{leaning(199, false), none},
		{tm(api.App, bushy(11), bushy(11)), none},                                                  // 4095 nodes
		{tm(api.App, bushy(11), tm(api.App, tm(api.Fst, bushy(10)), bushy(10))), none},             // 4096 nodes
		{tm(api.App, tm(api.Lam, nat, leaning(197, true)), tm(api.Fst, leaning(197, true))), none}, // depth 200
	} {
		wantCheck(t, c.t, c.s, api.OK)
	}
}

// P3.1
func TestCheckForm(t *testing.T) {
	one, two, three := []api.Term{prop}, []api.Term{prop, prop}, []api.Term{prop, prop, prop}
	levels := []api.Level{lv(0)}
	wide := scope{9, 8, 9, 9}
	for _, c := range []api.Term{
		{Kind: -1}, {Kind: api.Kinds}, {Kind: math.MaxInt}, {Kind: math.MinInt}, {Kind: 14, Kids: two},
		{Kind: api.Var, Name: "a"}, {Kind: api.Var, Levels: levels}, {Kind: api.Var, Kids: one},
		{Kind: api.Meta, Name: "a"}, {Kind: api.Meta, Levels: levels}, {Kind: api.Meta, Kids: one},
		{Kind: api.Prop, Index: 1}, {Kind: api.Prop, Index: -1}, {Kind: api.Prop, Name: "a"}, {Kind: api.Prop, Levels: levels}, {Kind: api.Prop, Kids: one},
		{Kind: api.Sort}, {Kind: api.Sort, Levels: []api.Level{lv(0), lv(1)}}, {Kind: api.Sort, Levels: levels, Index: 1},
		{Kind: api.Sort, Levels: levels, Name: "a"}, {Kind: api.Sort, Levels: levels, Kids: one},
		{Kind: api.Const, Name: "Nat", Index: 1}, {Kind: api.Const, Name: "Nat", Kids: one}, {Kind: api.Const, Index: 1},
		{Kind: api.App}, {Kind: api.App, Kids: one}, {Kind: api.App, Kids: three}, {Kind: api.App, Kids: two, Index: 1},
		{Kind: api.App, Kids: two, Name: "a"}, {Kind: api.App, Kids: two, Levels: levels},
		{Kind: api.Lam}, {Kind: api.Lam, Kids: one}, {Kind: api.Lam, Kids: three}, {Kind: api.Lam, Kids: two, Index: -1},
		{Kind: api.Lam, Kids: two, Name: "x"}, {Kind: api.Lam, Kids: two, Levels: levels},
		{Kind: api.Pi, Kids: one}, {Kind: api.Pi, Kids: three}, {Kind: api.Pi, Kids: two, Name: "x"},
		{Kind: api.Sigma, Kids: one}, {Kind: api.Sigma, Kids: three}, {Kind: api.Sigma, Kids: two, Name: "x"},
		{Kind: api.Pair, Kids: two}, {Kind: api.Pair, Kids: append(three, prop)}, {Kind: api.Pair, Kids: three, Index: 1},
		{Kind: api.Fst}, {Kind: api.Fst, Kids: two}, {Kind: api.Fst, Kids: one, Index: 1},
		{Kind: api.Snd}, {Kind: api.Snd, Kids: two}, {Kind: api.Snd, Kids: one, Levels: levels},
		{Kind: api.Let, Kids: two}, {Kind: api.Let, Kids: append(three, prop)}, {Kind: api.Let, Kids: three, Name: "x"},
	} {
		wantCheck(t, c, wide, api.ErrForm)
		wantCheck(t, tm(api.App, nat, c), wide, api.ErrForm)
		wantCheck(t, tm(api.Let, nat, nat, c), wide, api.ErrForm)
	}
}

// P3.1
func TestCheckErrors(t *testing.T) {
	wide := scope{9, 8, 9, 9}
	many := make([]api.Level, 9)
	bad := lv(1, v(0, 3))
	for _, c := range []struct {
		t   api.Term
		s   scope
		err api.Errno
	}{
		{con(""), wide, api.ErrName},
		{con("a."), wide, api.ErrName},
		{con("1"), wide, api.ErrName},
		{con("", many...), wide, api.ErrName},
		{con("a..b", bad), wide, api.ErrName},
		{con("f", many...), wide, api.ErrMany},
		{con("f", append([]api.Level{bad}, many...)...), wide, api.ErrMany},
		{con("f", lv(0), bad), wide, api.ErrForm},
		{con("f", lv(0), lv(0, v(2, 0)), bad), scope{params: 2}, api.ErrLevel},
		{con("f", lv(0), bad, lv(0, v(2, 0))), scope{params: 2}, api.ErrForm},
		{con("f", lv(0, v(-2, 0)), lv(0, v(2, 0))), scope{params: 2, levels: 1}, api.ErrMeta},
		{con("f", lv(0, v(-2, 0), v(2, 0))), scope{params: 2, levels: 1}, api.ErrLevel},
		{con("f", lv(0, v(-2, 0), v(2, 0))), scope{params: 3, levels: 1}, api.ErrMeta},
		{sort(lv(101)), wide, api.ErrForm},
		{sort(lv(-1)), wide, api.ErrForm},
		{sort(lv(0, v(8, 0))), wide, api.ErrForm},
		{sort(lv(0, v(1, 0))), scope{params: 1}, api.ErrLevel},
		{sort(lv(0, v(0, 0))), scope{params: 0}, api.ErrLevel},
		{sort(lv(0, v(0, 0))), scope{params: -3}, api.ErrLevel},
		{sort(lv(0, v(-1, 0))), scope{params: 8}, api.ErrMeta},
		{sort(lv(0, v(-1, 0))), scope{levels: -1}, api.ErrMeta},
		{sort(lv(0, v(-3, 0), v(-1, 0))), scope{levels: 2}, api.ErrMeta},
		{x(0), none, api.ErrScope},
		{x(0), scope{vars: -1}, api.ErrScope},
		{x(0), scope{vars: math.MinInt}, api.ErrScope},
		{x(5), scope{vars: 5}, api.ErrScope},
		{x(-1), wide, api.ErrScope},
		{x(math.MinInt), wide, api.ErrScope},
		{x(math.MaxInt), scope{vars: math.MaxInt}, api.ErrScope},
		{tm(api.Lam, x(0), nat), none, api.ErrScope},
		{tm(api.Lam, nat, x(1)), none, api.ErrScope},
		{tm(api.Lam, nat, x(-1)), wide, api.ErrScope},
		{tm(api.Lam, nat, x(1)), scope{vars: -1}, api.ErrScope},
		{tm(api.Lam, nat, tm(api.App, x(0), x(1))), none, api.ErrScope},
		{tm(api.Pi, x(0), nat), none, api.ErrScope},
		{tm(api.Sigma, x(0), nat), none, api.ErrScope},
		{tm(api.Let, x(0), nat, nat), none, api.ErrScope},
		{tm(api.Let, nat, x(0), nat), none, api.ErrScope},
		{tm(api.Let, nat, nat, x(1)), none, api.ErrScope},
		{tm(api.App, tm(api.Lam, nat, x(0)), x(0)), none, api.ErrScope},
		{tm(api.Pair, nat, x(0), nat), none, api.ErrScope},
		{tm(api.Pair, nat, nat, x(0)), none, api.ErrScope},
		{tm(api.App, nat, x(0)), none, api.ErrScope},
		{meta(0), scope{vars: 9}, api.ErrMeta},
		{meta(0), scope{metas: -1}, api.ErrMeta},
		{meta(3), scope{metas: 3}, api.ErrMeta},
		{meta(-1), wide, api.ErrMeta},
		{meta(math.MaxInt), scope{metas: math.MaxInt}, api.ErrMeta},
		// The form comes before everything else of a node.
		{api.Term{Kind: api.Var, Index: 99, Name: "x"}, wide, api.ErrForm},
		{api.Term{Kind: api.Meta, Index: -1, Kids: []api.Term{nat}}, wide, api.ErrForm},
		{api.Term{Kind: api.Const, Name: "Nat", Kids: []api.Term{nat, nat}}, wide, api.ErrForm},
		{api.Term{Kind: api.Const, Name: "1", Levels: many, Kids: []api.Term{nat}}, wide, api.ErrForm},
		{api.Term{Kind: api.Sort, Levels: []api.Level{bad, bad}, Name: "x"}, wide, api.ErrForm},
		// The first node in preorder that has an error.
		{tm(api.App, x(0), con("")), none, api.ErrScope},
		{tm(api.App, con(""), x(0)), none, api.ErrName},
		{tm(api.App, tm(api.Fst, meta(0)), x(0)), none, api.ErrMeta},
		{tm(api.App, x(0), tm(api.Fst)), none, api.ErrScope},
		{tm(api.Pi, sort(lv(0, v(0, 0))), sort(bad)), none, api.ErrLevel},
		{tm(api.App, x(9)), none, api.ErrForm},
		// The size and the depth come last, the size first.
		{leaning(200, true), none, api.ErrDeep},
		{leaning(200, false), none, api.ErrDeep},
		{leaning(2047, true), none, api.ErrDeep},
		{leaning(2048, true), none, api.ErrLong},
		{bushy(12), none, api.OK},
		{tm(api.Fst, bushy(12)), none, api.OK},
		{tm(api.Fst, tm(api.Fst, bushy(12))), none, api.ErrLong},
		{bushy(13), none, api.ErrLong},
		{tm(api.App, bushy(13), x(0)), none, api.ErrScope},
		{tm(api.App, leaning(300, true), meta(0)), none, api.ErrMeta},
		{tm(api.App, leaning(3000, false), api.Term{Kind: 13}), none, api.ErrForm},
	} {
		wantCheck(t, c.t, c.s, c.err)
	}
}

// different returns terms each two of which differ.
func different() []api.Term {
	terms := []api.Term{
		prop, nat, con("Nat.zero"), con("Nat", lv(0)), con("Nat", lv(0), lv(0)), con("Nat", lv(1)), con("Nat", lv(0, v(0, 0))), con("Nat", lv(0, v(0, 1))),
		con("Nat", lv(0, v(-1, 0))), con("Nat", lv(1), lv(0)), con("Nat", lv(0), lv(1)), con(""),
		sort(lv(0)), sort(lv(1)), sort(lv(1, v(0, 0))), sort(lv(0, v(0, 0), v(1, 0))), {Kind: api.Sort},
		x(0), x(1), x(-1), meta(0), meta(1), {Kind: -1}, {Kind: 13}, {Kind: api.Prop, Index: 1}, {Kind: api.Prop, Name: "a"},
	}
	for kind := api.App; kind <= api.Let; kind++ {
		terms = append(terms, tm(kind), tm(kind, prop), tm(kind, prop, prop), tm(kind, prop, prop, prop), tm(kind, prop, nat), tm(kind, nat, prop),
			tm(kind, prop, tm(api.Fst, nat)), tm(kind, tm(api.Fst, nat), prop), tm(kind, prop, tm(api.Fst, prop)), tm(kind, nat, nat, x(0)), tm(kind, nat, nat, x(1)))
	}
	return terms
}

// P3.2
func TestSame(t *testing.T) {
	terms := different()
	for i, a := range terms {
		for j, b := range terms {
			if term.Same(a, b) != (i == j) {
				t.Errorf("Same(%v, %v) is %v", a, b, i != j)
			}
			for _, kind := range []int{api.App, api.Let, 99} {
				if term.Same(tm(kind, nat, a), tm(kind, nat, b)) != (i == j) {
					t.Errorf("Same of terms of the kind %d with %v and %v is %v", kind, a, b, i != j)
				}
			}
		}
	}
	empty := api.Term{Kind: api.Const, Name: "Nat", Levels: []api.Level{}, Kids: []api.Term{}}
	if !term.Same(nat, empty) || !term.Same(empty, nat) {
		t.Error("nil and empty lists differ")
	}
	if !term.Same(sort(lv(2)), sort(api.Level{Const: 2, Vars: []api.LevelVar{}})) {
		t.Error("nil and empty Vars differ")
	}
	if term.Same(leaning(150, true), leaning(151, true)) || term.Same(leaning(150, true), leaning(150, false)) || !term.Same(bushy(10), bushy(10)) {
		t.Error("Same of big terms")
	}
}

// P3.2
func TestMeasures(t *testing.T) {
	three := tm(api.Let, x(2), tm(api.Lam, x(2), x(2)), tm(api.Pi, x(3), tm(api.Sigma, x(2), x(8))))
	for _, c := range []struct {
		t           api.Term
		size, depth int
		free        []int
		consts      []string
		metas       []int
	}{
		{t: tm(api.Lam, nat, tm(api.App, x(0), x(1))), size: 5, depth: 3, free: []int{0}, consts: []string{"Nat"}},
		{t: prop, size: 1, depth: 1},
		{t: x(7), size: 1, depth: 1, free: []int{7}},
		{t: x(-7), size: 1, depth: 1},
		{t: x(math.MaxInt), size: 1, depth: 1, free: []int{math.MaxInt}},
		{t: three, size: 10, depth: 4, free: []int{0, 1, 2, 5}},
		{t: tm(api.App, tm(api.App, con("b"), con("a")), tm(api.App, con("b"), con("c"))), size: 7, depth: 3, consts: []string{"b", "a", "c"}},
		{t: tm(api.Pair, meta(5), tm(api.App, meta(1), meta(5)), meta(-1)), size: 6, depth: 3, metas: []int{5, 1, -1}},
		{t: tm(api.App, tm(api.Fst, x(9)), tm(api.Snd, x(3))), size: 5, depth: 3, free: []int{3, 9}},
		{t: leaning(150, true), size: 301, depth: 151},
		{t: leaning(150, false), size: 301, depth: 151},
		{t: bushy(12), size: 4095, depth: 12},
		// Terms that Check refuses: the kids of all nodes count, but only the listed ones are below a binder.
		{t: tm(77, x(0), tm(-1, x(2), con(""))), size: 5, depth: 3, free: []int{0, 2}, consts: []string{""}},
		{t: tm(api.Lam, x(0), x(0), x(0)), size: 4, depth: 2, free: []int{0}},
		{t: tm(api.Lam, x(5), x(5), x(5), x(5)), size: 5, depth: 2, free: []int{4, 5}},
		{t: tm(api.Let, x(5), x(5), x(5), x(5)), size: 5, depth: 2, free: []int{4, 5}},
		{t: tm(api.Let, x(3), x(3)), size: 3, depth: 2, free: []int{3}},
		{t: tm(api.Pi, x(0)), size: 2, depth: 2, free: []int{0}},
		{t: tm(api.Lam, prop, x(-1)), size: 3, depth: 2},
		{t: api.Term{Kind: api.Var, Index: 2, Name: "n", Kids: []api.Term{x(1), meta(2)}}, size: 3, depth: 2, free: []int{1, 2}, metas: []int{2}},
		{t: api.Term{Kind: api.Prop, Index: 4, Name: "n", Kids: []api.Term{x(6)}}, size: 2, depth: 2, free: []int{6}},
	} {
		if got := term.Size(c.t); got != c.size {
			t.Errorf("Size(%v) = %d, want %d", c.t, got, c.size)
		}
		if got := term.Depth(c.t); got != c.depth {
			t.Errorf("Depth(%v) = %d, want %d", c.t, got, c.depth)
		}
		if got := term.Free(c.t); !slices.Equal(got, c.free) {
			t.Errorf("Free(%v) = %v, want %v", c.t, got, c.free)
		}
		if got := term.Consts(c.t); !slices.Equal(got, c.consts) {
			t.Errorf("Consts(%v) = %v, want %v", c.t, got, c.consts)
		}
		if got := term.Metas(c.t); !slices.Equal(got, c.metas) {
			t.Errorf("Metas(%v) = %v, want %v", c.t, got, c.metas)
		}
		for _, i := range append([]int{math.MinInt, -7, -1, 0, 1, 2, 3, 4, 5, 6, 7, 8, 9, math.MaxInt}, c.free...) {
			if got := term.Occurs(c.t, i); got != slices.Contains(c.free, i) {
				t.Errorf("Occurs(%v, %d) = %v", c.t, i, got)
			}
		}
	}
}

// P3.1, P3.2: a term may be deeper than any stack.
func TestVeryDeep(t *testing.T) {
	const apps = 1 << 20
	deep := tm(api.App, x(3), con("c"))
	for range apps {
		deep = tm(api.Lam, meta(1), deep)
	}
	if err := term.Check(deep, 4, 0, 2, 0); err != api.ErrLong {
		t.Errorf("Check of a very deep term: error %d", err)
	}
	if term.Size(deep) != 2*apps+3 || term.Depth(deep) != apps+2 {
		t.Errorf("Size and Depth of a very deep term are %d and %d", term.Size(deep), term.Depth(deep))
	}
	if !term.Same(deep, deep) || len(term.Free(deep)) != 0 || term.Occurs(deep, 3) {
		t.Error("Same, Free or Occurs of a very deep term")
	}
	if !slices.Equal(term.Metas(deep), []int{1}) || !slices.Equal(term.Consts(deep), []string{"c"}) {
		t.Error("Metas or Consts of a very deep term")
	}
}

// P3.2: a result is new memory, and arguments stay as they are.
func TestMemory(t *testing.T) {
	build := func() api.Term {
		return tm(api.Lam, con("a", lv(1, v(-1, 0), v(0, 0))), tm(api.App, tm(api.App, con("b"), meta(2)), tm(api.App, x(3), x(1))))
	}
	a := build()
	consts, metas, free := term.Consts(a), term.Metas(a), term.Free(a)
	consts[0], metas[0], free[0] = "z", 99, 99
	term.Check(a, 9, 9, 9, 9)
	term.Same(a, build())
	term.Name("a.b")
	if !term.Same(a, build()) || !level.Same(a.Kids[0].Levels[0], lv(1, v(-1, 0), v(0, 0))) {
		t.Error("an argument was modified")
	}
	if !slices.Equal(term.Consts(a), []string{"a", "b"}) || !slices.Equal(term.Metas(a), []int{2}) || !slices.Equal(term.Free(a), []int{0, 2}) {
		t.Error("a result shares memory with another one")
	}
}
