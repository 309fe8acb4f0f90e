package subst_test

import (
	"fmt"
	"math"
	"testing"

	"euclid/api"
	"euclid/subst"
	"euclid/term"
)

func lv(constant int, vars ...api.LevelVar) api.Level {
	return api.Level{Const: constant, Vars: vars}
}

func v(index, plus int) api.LevelVar { return api.LevelVar{Index: index, Plus: plus} }

// tm builds a term of a kind that has only kids.
func tm(kind int, kids ...api.Term) api.Term { return api.Term{Kind: kind, Kids: kids} }

func app(f, a api.Term) api.Term { return tm(api.App, f, a) }

func lam(a, b api.Term) api.Term { return tm(api.Lam, a, b) }

func x(index int) api.Term { return api.Term{Kind: api.Var, Index: index} }

func meta(index int) api.Term { return api.Term{Kind: api.Meta, Index: index} }

func con(name string, levels ...api.Level) api.Term {
	return api.Term{Kind: api.Const, Name: name, Levels: levels}
}

func sort(l api.Level) api.Term { return api.Term{Kind: api.Sort, Levels: []api.Level{l}} }

var (
	prop = tm(api.Prop)
	nat  = con("Nat")
)

func list(terms ...api.Term) []api.Term { return terms }

func show(t api.Term) string { return fmt.Sprintf("%.500s", fmt.Sprint(t)) }

// want checks a result and its error; beside an error the result has to be zero.
func want(t *testing.T, what string, got api.Term, err api.Errno, result api.Term, wantErr api.Errno) {
	t.Helper()
	if wantErr != api.OK {
		result = api.Term{}
	}
	if err != wantErr || !term.Same(got, result) {
		t.Errorf("%s: got %s, error %d, want %s, error %d", what, show(got), err, show(result), wantErr)
	}
}

// under puts a term below binders.
func under(n int, t api.Term) api.Term {
	for range n {
		t = lam(nat, t)
	}
	return t
}

// nested puts a term below as many Fst.
func nested(n int, t api.Term) api.Term {
	for range n {
		t = tm(api.Fst, t)
	}
	return t
}

// bushy returns a term of applications with leaves that are all equal: a full binary tree with 2^depth - 1 nodes.
func bushy(depth int, leaf api.Term) api.Term {
	if depth == 1 {
		return leaf
	}
	return app(bushy(depth-1, leaf), bushy(depth-1, leaf))
}

// P4.1
func TestShift(t *testing.T) {
	example := lam(nat, app(x(0), x(1)))
	all := tm(api.Let, x(0), tm(api.Pair, x(1), lam(x(0), x(1)), tm(api.Pi, x(2), x(0))), tm(api.Sigma, x(1), app(x(2), tm(api.Snd, x(1)))))
	for _, c := range []struct {
		t        api.Term
		by, from int
		want     api.Term
		err      api.Errno
	}{
		{example, 2, 0, lam(nat, app(x(0), x(3))), api.OK},
		{example, 2, 1, example, api.OK},
		{example, -1, 0, prop, api.ErrScope},
		{example, -1, 1, example, api.OK},
		{example, 0, 0, example, api.OK},
		{all, 3, 0, tm(api.Let, x(3), tm(api.Pair, x(4), lam(x(3), x(4)), tm(api.Pi, x(5), x(0))), tm(api.Sigma, x(4), app(x(5), tm(api.Snd, x(1))))), api.OK},
		{all, 3, 1, tm(api.Let, x(0), tm(api.Pair, x(4), lam(x(0), x(1)), tm(api.Pi, x(5), x(0))), tm(api.Sigma, x(1), app(x(2), tm(api.Snd, x(1))))), api.OK},
		{all, 9, 3, all, api.OK},
		{x(5), -2, 3, x(3), api.OK},
		{x(5), -2, 4, prop, api.ErrScope},
		{x(5), -2, 5, prop, api.ErrScope},
		{x(5), -2, 6, x(5), api.OK},
		{x(5), -5, 0, x(0), api.OK},
		{x(5), -6, 0, prop, api.ErrScope},
		{lam(nat, x(6)), -2, 4, prop, api.ErrScope},
		{lam(nat, x(6)), -2, 3, lam(nat, x(4)), api.OK},
		{app(x(0), x(5)), -1, 1, app(x(0), x(4)), api.OK},
		{app(x(1), x(5)), -1, 1, prop, api.ErrScope},
		{x(0), 65535, 0, x(65535), api.OK},
		{x(0), 65536, 0, prop, api.ErrScope},
		{nat, 65536, 0, nat, api.OK},
		{lam(nat, x(0)), 65536, 0, lam(nat, x(0)), api.OK},
		{x(0), 65536, 1, x(0), api.OK},
		{nat, 65537, 0, prop, api.ErrRange},
		{nat, -65537, 0, prop, api.ErrRange},
		{nat, math.MinInt, 0, prop, api.ErrRange},
		{nat, math.MaxInt, 0, prop, api.ErrRange},
		{nat, 0, -1, prop, api.ErrRange},
		{x(0), -1, math.MinInt, prop, api.ErrRange},
		{x(9), -65536, 0, prop, api.ErrScope},
		{x(9), -65536, 9, prop, api.ErrScope},
		{x(9), -65536, 10, x(9), api.OK},
		{x(9), -65536, math.MaxInt, x(9), api.OK},
		{x(9), 65536, math.MaxInt, x(9), api.OK},
		// A variable that is moved by 0 must be small enough, too; one that is not moved need not.
		{x(65535), 0, 0, x(65535), api.OK},
		{lam(nat, x(65536)), 0, 0, prop, api.ErrScope},
		{lam(nat, x(65536)), 0, 65535, prop, api.ErrScope},
		{lam(nat, x(65536)), 0, 65536, lam(nat, x(65536)), api.OK},
		{lam(nat, x(65536)), 5, 65536, lam(nat, x(65536)), api.OK},
		{lam(nat, x(65536)), -1, 0, lam(nat, x(65535)), api.OK},
		{under(9, x(65544)), -9, 3, under(9, x(65535)), api.OK},
		{under(9, x(65544)), -8, 3, prop, api.ErrScope},
		{lam(nat, x(65535)), 1, 0, prop, api.ErrScope},
		{lam(nat, x(65534)), 1, 0, lam(nat, x(65535)), api.OK},
		{under(199, x(0)), 1, 0, under(199, x(0)), api.OK},
		{under(199, x(199)), 1, 0, under(199, x(200)), api.OK},
		{bushy(12, x(7)), 1, 0, bushy(12, x(8)), api.OK},
		{tm(api.Fst, bushy(12, x(7))), 1, 0, tm(api.Fst, bushy(12, x(8))), api.OK},
	} {
		got, err := subst.Shift(c.t, c.by, c.from)
		want(t, fmt.Sprintf("Shift(%s, %d, %d)", show(c.t), c.by, c.from), got, err, c.want, c.err)
	}
}

// P4.1
func TestSubst(t *testing.T) {
	for _, c := range []struct {
		t      api.Term
		values []api.Term
		want   api.Term
		err    api.Errno
	}{
		{lam(nat, app(x(1), x(2))), list(x(4)), lam(nat, app(x(5), x(1))), api.OK},
		{app(x(0), app(x(1), app(x(2), x(3)))), list(nat, prop), app(nat, app(prop, app(x(0), x(1)))), api.OK},
		{app(x(0), lam(x(1), app(x(0), x(1)))), list(), app(x(0), lam(x(1), app(x(0), x(1)))), api.OK},
		{tm(api.Let, x(0), x(0), app(x(0), x(1))), list(x(6)), tm(api.Let, x(6), x(6), app(x(0), x(7))), api.OK},
		{tm(api.Sigma, x(1), tm(api.Pi, x(2), x(3))), list(meta(1), lam(nat, app(x(0), x(1)))),
			tm(api.Sigma, lam(nat, app(x(0), x(1))), tm(api.Pi, lam(nat, app(x(0), x(2))), lam(nat, app(x(0), x(3))))), api.OK},
		{x(0), list(x(0)), x(0), api.OK},
		{x(5), list(x(0), x(0)), x(3), api.OK},
		{nat, list(x(70000)), nat, api.OK},
		{x(1), list(x(70000)), x(0), api.OK},
		// Indices that are too great.
		{x(65535), list(), x(65535), api.OK},
		{lam(nat, x(65536)), list(), prop, api.ErrScope},
		{lam(nat, x(65536)), list(nat), lam(nat, x(65535)), api.OK},
		{under(2, x(65537)), list(nat), prop, api.ErrScope},
		{x(0), list(x(65535)), x(65535), api.OK},
		{lam(nat, x(1)), list(x(65535)), prop, api.ErrScope},
		{x(0), list(lam(nat, x(65536))), prop, api.ErrScope},
		{x(0), list(lam(nat, x(65535))), lam(nat, x(65535)), api.OK},
		{lam(nat, x(0)), list(x(65535)), lam(nat, x(0)), api.OK},
		{under(3, x(3)), list(x(65532)), under(3, x(65535)), api.OK},
		{under(3, x(3)), list(x(65533)), prop, api.ErrScope},
		// Too many nodes: the limit is 4096.
		{bushy(2, x(0)), list(bushy(11, nat)), app(bushy(11, nat), bushy(11, nat)), api.OK},
		{tm(api.Fst, bushy(2, x(0))), list(bushy(11, nat)), tm(api.Fst, app(bushy(11, nat), bushy(11, nat))), api.OK},
		{nested(2, bushy(2, x(0))), list(bushy(11, nat)), prop, api.ErrLong},
		{app(x(0), x(1)), list(bushy(11, nat), app(nat, bushy(11, nat))), prop, api.ErrLong},
		{bushy(12, x(0)), list(nat), bushy(12, nat), api.OK},
		{bushy(12, x(0)), list(tm(api.Fst, nat)), prop, api.ErrLong},
		{bushy(12, x(1)), list(tm(api.Fst, nat)), bushy(12, x(0)), api.OK},
		{bushy(12, x(0)), list(bushy(12, x(0))), prop, api.ErrLong},
		// Too great a depth: the limit is 200.
		{nested(100, x(0)), list(nested(99, nat)), nested(199, nat), api.OK},
		{nested(100, x(0)), list(nested(100, nat)), prop, api.ErrDeep},
		{nested(199, x(0)), list(nested(199, nat)), prop, api.ErrDeep},
		{nested(100, x(1)), list(nested(100, nat)), nested(100, x(0)), api.OK},
		{under(100, x(100)), list(under(99, x(99))), under(199, x(199)), api.OK},
		// The order of the errors: ErrLong, ErrScope, ErrDeep.
		{app(lam(nat, x(1)), bushy(12, x(0))), list(app(x(65535), x(0))), prop, api.ErrLong},
		{app(bushy(12, x(0)), lam(nat, x(1))), list(app(x(65535), x(0))), prop, api.ErrLong},
		{nested(150, lam(nat, app(x(1), x(2)))), list(nested(100, x(65535)), bushy(11, x(0))), prop, api.ErrScope},
		{nested(150, lam(nat, app(x(2), x(1)))), list(bushy(12, x(65535)), nested(100, x(0))), prop, api.ErrLong},
		{lam(nat, app(x(1), nested(198, x(1)))), list(app(x(65535), nat)), prop, api.ErrScope},
		{app(nested(150, x(0)), bushy(11, x(1))), list(nested(100, nat), bushy(3, nat)), prop, api.ErrLong},
	} {
		what := fmt.Sprintf("Subst(%s, %.300s)", show(c.t), fmt.Sprint(c.values))
		got, err := subst.Subst(c.t, c.values)
		want(t, what, got, err, c.want, c.err)
		got, err = subst.Under(c.t, c.values, 0)
		want(t, "Under for "+what, got, err, c.want, c.err)
	}
}

// P4.1
func TestUnder(t *testing.T) {
	for _, c := range []struct {
		t      api.Term
		values []api.Term
		depth  int
		want   api.Term
		err    api.Errno
	}{
		{app(x(0), app(x(1), app(x(2), x(3)))), list(nat), 1, app(x(0), app(nat, app(x(1), x(2)))), api.OK},
		{app(x(0), app(x(1), x(2))), list(x(0)), 1, app(x(0), app(x(1), x(1))), api.OK},
		{app(x(1), x(2)), list(app(x(0), x(3))), 2, app(x(1), app(x(2), x(5))), api.OK},
		{lam(x(2), app(x(2), app(x(3), x(4)))), list(x(1)), 2, lam(x(3), app(x(2), app(x(4), x(3)))), api.OK},
		{app(x(2), app(x(3), x(4))), list(nat, lam(x(0), x(1))), 2, app(nat, app(lam(x(2), x(3)), x(2))), api.OK},
		{app(x(0), x(7)), list(nat), 8, app(x(0), x(7)), api.OK},
		{app(x(0), x(7)), list(nat), math.MaxInt, app(x(0), x(7)), api.OK},
		{app(x(0), x(7)), list(), 3, app(x(0), x(7)), api.OK},
		{lam(nat, x(0)), list(nat), 0, lam(nat, x(0)), api.OK},
		{nat, list(), -1, prop, api.ErrRange},
		{bushy(12, x(0)), list(bushy(12, x(0))), -1, prop, api.ErrRange},
		{x(0), list(nat), math.MinInt, prop, api.ErrRange},
		// Variables below depth are not moved.
		{lam(nat, x(65536)), list(nat), 65536, lam(nat, x(65536)), api.OK},
		{lam(nat, x(65536)), list(nat), 65535, lam(nat, nat), api.OK},
		{lam(nat, x(65536)), list(), 65535, prop, api.ErrScope},
		{lam(nat, x(65536)), list(nat), 65534, lam(nat, x(65535)), api.OK},
		{x(9), list(x(65526)), 9, x(65535), api.OK},
		{x(9), list(x(65527)), 9, prop, api.ErrScope},
		{lam(nat, x(10)), list(x(65526)), 9, prop, api.ErrScope},
		{lam(nat, x(10)), list(lam(x(0), x(0))), 9, lam(nat, lam(x(10), x(0))), api.OK},
		{x(65535), list(nat), 65535, nat, api.OK},
		{x(65535), list(x(0)), 65535, x(65535), api.OK},
		{x(65535), list(x(1)), 65535, prop, api.ErrScope},
		{bushy(11, x(3)), list(tm(api.Fst, bushy(2, nat))), 3, prop, api.ErrLong},
		{bushy(11, x(2)), list(tm(api.Fst, bushy(2, nat))), 3, bushy(11, x(2)), api.OK},
		{nested(150, x(3)), list(nested(50, nat)), 3, prop, api.ErrDeep},
		{nested(150, x(3)), list(nested(49, nat)), 3, nested(199, nat), api.OK},
	} {
		got, err := subst.Under(c.t, c.values, c.depth)
		want(t, fmt.Sprintf("Under(%s, %.300s, %d)", show(c.t), fmt.Sprint(c.values), c.depth), got, err, c.want, c.err)
	}
}

// P4.1
func TestRename(t *testing.T) {
	for _, c := range []struct {
		t    api.Term
		to   []int
		want api.Term
		err  api.Errno
	}{
		{lam(x(0), app(x(0), app(x(1), x(3)))), []int{5, 6, 7}, lam(x(5), app(x(0), app(x(6), x(8)))), api.OK},
		{app(x(0), x(1)), []int{1, 0}, app(x(1), x(0)), api.OK},
		{app(x(0), x(1)), []int{3, 3}, app(x(3), x(3)), api.OK},
		{nat, nil, nat, api.OK},
		{lam(nat, x(0)), nil, lam(nat, x(0)), api.OK},
		{x(0), nil, prop, api.ErrScope},
		{app(x(0), x(2)), []int{0, 1}, prop, api.ErrScope},
		{tm(api.Let, nat, nat, x(3)), []int{0, 1}, prop, api.ErrScope},
		{tm(api.Let, nat, nat, x(2)), []int{0, 1}, tm(api.Let, nat, nat, x(2)), api.OK},
		{x(1), []int{-1, 3}, x(3), api.OK},
		{x(0), []int{-1, 3}, prop, api.ErrScope},
		{lam(nat, x(1)), []int{-1}, prop, api.ErrScope},
		{x(0), []int{math.MinInt}, prop, api.ErrScope},
		{lam(nat, x(1)), []int{math.MaxInt}, prop, api.ErrScope},
		{x(0), []int{65535}, x(65535), api.OK},
		{x(0), []int{65536}, prop, api.ErrScope},
		{lam(nat, x(1)), []int{65534}, lam(nat, x(65535)), api.OK},
		{lam(nat, x(1)), []int{65535}, prop, api.ErrScope},
		{under(100, x(100)), []int{65435}, under(100, x(65535)), api.OK},
		{under(100, x(100)), []int{65436}, prop, api.ErrScope},
		{lam(nat, x(65536)), make([]int, 65536), lam(nat, x(1)), api.OK},
		{lam(nat, x(65536)), make([]int, 65535), prop, api.ErrScope},
		{bushy(12, x(0)), []int{1}, bushy(12, x(1)), api.OK},
	} {
		got, err := subst.Rename(c.t, c.to)
		want(t, fmt.Sprintf("Rename(%s, %.300s)", show(c.t), fmt.Sprint(c.to)), got, err, c.want, c.err)
	}
}

// P4.2
func TestLevels(t *testing.T) {
	u0, u1, m0 := lv(0, v(0, 0)), lv(0, v(1, 0)), lv(0, v(-1, 0))
	for _, c := range []struct {
		t      api.Term
		params []api.Level
		want   api.Term
		err    api.Errno
	}{
		{con("Eq", u0, u1), []api.Level{u1, lv(3)}, con("Eq", u1, lv(3)), api.OK},
		{tm(api.Pi, sort(lv(2, v(0, 1))), app(con("f", u0), sort(m0))), []api.Level{lv(0, v(1, 1))}, tm(api.Pi, sort(lv(0, v(1, 2))), app(con("f", lv(0, v(1, 1))), sort(m0))), api.OK},
		{sort(lv(0, v(-4, 0), v(0, 1))), []api.Level{lv(7)}, sort(lv(8, v(-4, 0))), api.OK},
		{app(con("f"), x(3)), nil, app(con("f"), x(3)), api.OK},
		{sort(lv(9)), nil, sort(lv(9)), api.OK},
		{sort(u0), nil, prop, api.ErrScope},
		{sort(u1), []api.Level{u0}, prop, api.ErrScope},
		{sort(lv(0, v(0, 1))), []api.Level{lv(100)}, prop, api.ErrLevel},
		{app(sort(lv(0, v(0, 1))), sort(u1)), []api.Level{lv(100)}, prop, api.ErrLevel},
		{app(sort(u1), sort(lv(0, v(0, 1)))), []api.Level{lv(100)}, prop, api.ErrScope},
		{con("f", lv(0, v(0, 1)), u1), []api.Level{lv(100)}, prop, api.ErrLevel},
		{con("f", u1, lv(0, v(0, 1))), []api.Level{lv(100)}, prop, api.ErrScope},
		{app(sort(u0), lam(nat, con("f", lv(0, v(0, 99))))), []api.Level{lv(2)}, prop, api.ErrLevel},
		{bushy(12, sort(u0)), []api.Level{lv(4)}, bushy(12, sort(lv(4))), api.OK},
	} {
		got, err := subst.Levels(c.t, c.params)
		want(t, fmt.Sprintf("Levels(%s, %v)", show(c.t), c.params), got, err, c.want, c.err)
	}
}

// P4.2
func TestAssign(t *testing.T) {
	u0, m0, m1, m2 := lv(0, v(0, 0)), lv(0, v(-1, 0)), lv(0, v(-2, 0)), lv(0, v(-3, 0))
	for _, c := range []struct {
		t     api.Term
		metas []api.Level
		want  api.Term
		err   api.Errno
	}{
		{con("Eq", m0, m1), []api.Level{lv(1), u0}, con("Eq", lv(1), u0), api.OK},
		{con("Eq", m0, m2, u0), []api.Level{lv(1), u0}, con("Eq", lv(1), m2, u0), api.OK},
		{con("Eq", m0, m2), nil, con("Eq", m0, m2), api.OK},
		{con("Eq", m0, m1), []api.Level{m1, m2}, con("Eq", m1, m2), api.OK},
		{sort(lv(2, v(-1, 1), v(0, 0))), []api.Level{lv(0, v(0, 3))}, sort(lv(0, v(0, 4))), api.OK},
		{sort(lv(0, v(-3, 1), v(-2, 2), v(-1, 3))), []api.Level{lv(5), lv(7)}, sort(lv(9, v(-3, 1))), api.OK},
		{sort(lv(0, v(-65536, 0))), []api.Level{lv(1)}, sort(lv(0, v(-65536, 0))), api.OK},
		{app(sort(u0), sort(lv(3))), []api.Level{lv(1), lv(2)}, app(sort(u0), sort(lv(3))), api.OK},
		{lam(sort(m1), app(x(0), sort(lv(0, v(-2, 1))))), []api.Level{m0, lv(99)}, lam(sort(lv(99)), app(x(0), sort(lv(100)))), api.OK},
		{sort(lv(0, v(-2, 1))), []api.Level{lv(0), lv(100)}, prop, api.ErrLevel},
		{app(sort(m1), tm(api.Fst, con("f", lv(0), lv(0, v(-2, 2))))), []api.Level{lv(0), lv(99)}, prop, api.ErrLevel},
		{bushy(12, sort(m0)), []api.Level{lv(4)}, bushy(12, sort(lv(4))), api.OK},
	} {
		got, err := subst.Assign(c.t, c.metas)
		want(t, fmt.Sprintf("Assign(%s, %v)", show(c.t), c.metas), got, err, c.want, c.err)
	}
}

// P4.2
func TestAbstract(t *testing.T) {
	f, g := x(3), app(con("g", lv(1)), x(0))
	for _, c := range []struct {
		t, part api.Term
		want    api.Term
		found   int
		err     api.Errno
	}{
		{app(f, lam(nat, x(4))), f, app(x(0), lam(nat, x(1))), 2, api.OK},
		{app(f, lam(nat, f)), f, app(x(0), lam(nat, x(4))), 1, api.OK},
		{f, f, x(0), 1, api.OK},
		{app(x(0), x(2)), f, app(x(1), x(3)), 0, api.OK},
		{lam(x(0), x(0)), x(0), lam(x(0), x(0)), 1, api.OK},
		{nat, nat, x(0), 1, api.OK},
		{lam(nat, lam(nat, nat)), nat, lam(x(0), lam(x(1), x(2))), 3, api.OK},
		{app(g, lam(g, app(app(con("g", lv(1)), x(1)), g))), g, app(x(0), lam(x(0), app(x(1), app(con("g", lv(1)), x(0))))), 3, api.OK},
		{con("g", lv(2)), con("g", lv(1)), con("g", lv(2)), 0, api.OK},
		{tm(api.Let, g, g, app(con("g", lv(1)), x(1))), g, tm(api.Let, x(0), x(0), x(1)), 3, api.OK},
		// An occurrence in an occurrence does not count.
		{app(app(nat, nat), nat), nat, app(app(x(0), x(0)), x(0)), 3, api.OK},
		{app(nested(4, nat), nested(2, nat)), nested(2, nat), app(nested(2, x(0)), x(0)), 2, api.OK},
		{app(tm(api.Fst, x(1)), x(1)), tm(api.Fst, x(1)), app(x(0), x(2)), 1, api.OK},
		// The part is found only where it is shifted by the number of binders.
		{lam(nat, app(x(0), x(1))), lam(nat, app(x(0), x(1))), x(0), 1, api.OK},
		{tm(api.Sigma, nat, lam(nat, app(x(0), x(1)))), lam(nat, app(x(0), x(1))), tm(api.Sigma, nat, lam(nat, app(x(0), x(1)))), 0, api.OK},
		{tm(api.Sigma, nat, lam(nat, app(x(0), x(2)))), lam(nat, app(x(0), x(1))), tm(api.Sigma, nat, x(1)), 1, api.OK},
		{under(3, lam(nat, x(0))), lam(nat, x(0)), under(3, x(3)), 1, api.OK},
		// Great indices.
		{x(65534), nat, x(65535), 0, api.OK},
		{x(65535), nat, prop, 0, api.ErrScope},
		{x(65535), x(65535), x(0), 1, api.OK},
		{app(x(65535), lam(nat, x(65535))), x(65535), prop, 0, api.ErrScope},
		{app(x(65535), lam(nat, x(65534))), x(65535), app(x(0), lam(nat, x(65535))), 1, api.OK},
		{lam(nat, x(65536)), x(65535), prop, 0, api.ErrScope},
		{lam(nat, x(65536)), lam(nat, x(65536)), prop, 0, api.ErrScope},
		{lam(nat, x(65535)), lam(nat, x(65535)), x(0), 1, api.OK},
		{app(nat, lam(nat, x(65536))), nat, prop, 0, api.ErrScope},
		{app(nat, lam(nat, nat)), app(nat, x(65535)), app(nat, lam(nat, nat)), 0, api.OK},
		{bushy(12, nat), nat, bushy(12, x(0)), 2048, api.OK},
		{bushy(12, nat), bushy(6, nat), bushy(7, x(0)), 64, api.OK},
	} {
		got, found, err := subst.Abstract(c.t, c.part)
		what := fmt.Sprintf("Abstract(%s, %s)", show(c.t), show(c.part))
		want(t, what, got, err, c.want, c.err)
		if found != c.found {
			t.Errorf("%s: %d occurrences, want %d", what, found, c.found)
		}
	}
}
