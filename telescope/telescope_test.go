package telescope_test

import (
	"fmt"
	"math"
	"testing"

	"euclid/api"
	"euclid/telescope"
	"euclid/term"
)

// tm builds a term of a kind that has only kids.
func tm(kind int, kids ...api.Term) api.Term { return api.Term{Kind: kind, Kids: kids} }

func app(f, a api.Term) api.Term { return tm(api.App, f, a) }

func lam(a, b api.Term) api.Term { return tm(api.Lam, a, b) }

func pi(a, b api.Term) api.Term { return tm(api.Pi, a, b) }

func x(index int) api.Term { return api.Term{Kind: api.Var, Index: index} }

func con(name string, levels ...api.Level) api.Term {
	return api.Term{Kind: api.Const, Name: name, Levels: levels}
}

func lv(constant int, vars ...api.LevelVar) api.Level {
	return api.Level{Const: constant, Vars: vars}
}

func list(terms ...api.Term) []api.Term { return terms }

var (
	prop = tm(api.Prop)
	nat  = con("Nat")
	vec  = con("Vec", lv(2, api.LevelVar{Index: -1}, api.LevelVar{Index: 0, Plus: 1}))
	eq   = con("Eq")
	f    = con("f")
)

func show(t any) string { return fmt.Sprintf("%.400s", fmt.Sprint(t)) }

func want(t *testing.T, what string, got, wanted api.Term) {
	t.Helper()
	if !term.Same(got, wanted) {
		t.Errorf("%s: got %s, want %s", what, show(got), show(wanted))
	}
}

func wantList(t *testing.T, what string, got, wanted []api.Term) {
	t.Helper()
	want(t, what, tm(api.Pair, got...), tm(api.Pair, wanted...))
}

func wantErr(t *testing.T, what string, got, wanted api.Errno) {
	t.Helper()
	if got != wanted {
		t.Errorf("%s: got error %d, want %d", what, got, wanted)
	}
}

// repeated returns a list of equal terms.
func repeated(n int, t api.Term) []api.Term {
	var terms []api.Term
	for range n {
		terms = append(terms, t)
	}
	return terms
}

// nested puts a term below as many Fst.
func nested(n int, t api.Term) api.Term {
	for range n {
		t = tm(api.Fst, t)
	}
	return t
}

// bushy returns a full binary tree of applications with 2^depth - 1 nodes.
func bushy(depth int, leaf api.Term) api.Term {
	if depth == 1 {
		return leaf
	}
	return app(bushy(depth-1, leaf), bushy(depth-1, leaf))
}

// P5.1
func TestApplyAndSpine(t *testing.T) {
	for _, c := range []struct {
		head   api.Term
		args   []api.Term
		result api.Term
	}{
		{f, nil, f},
		{f, list(), f},
		{x(3), list(nat), app(x(3), nat)},
		{f, list(x(0), x(1), prop), app(app(app(f, x(0)), x(1)), prop)},
		{f, list(app(f, x(1)), x(70000)), app(app(f, app(f, x(1))), x(70000))},
		{lam(nat, app(x(0), x(1))), list(x(0)), app(lam(nat, app(x(0), x(1))), x(0))},
		{tm(api.Fst, app(f, nat)), list(vec, nat), app(app(tm(api.Fst, app(f, nat)), vec), nat)},
		{pi(app(eq, nat), app(x(0), nat)), nil, pi(app(eq, nat), app(x(0), nat))},
		{api.Term{Kind: api.Meta, Index: 9}, list(x(1), x(0)), app(app(api.Term{Kind: api.Meta, Index: 9}, x(1)), x(0))},
	} {
		want(t, "Apply", telescope.Apply(c.head, c.args...), c.result)
		head, args := telescope.Spine(c.result)
		want(t, "the head of "+show(c.result), head, c.head)
		wantList(t, "the arguments of "+show(c.result), args, c.args)
	}
	want(t, "Apply of an application", telescope.Apply(app(f, x(5)), x(4), x(3)), app(app(app(f, x(5)), x(4)), x(3)))
}

// P5.1
func TestBinders(t *testing.T) {
	tele := list(nat, app(vec, x(0)), prop)
	want(t, "Pis", telescope.Pis(tele, x(2)), pi(nat, pi(app(vec, x(0)), pi(prop, x(2)))))
	want(t, "Lams", telescope.Lams(tele, x(2)), lam(nat, lam(app(vec, x(0)), lam(prop, x(2)))))
	want(t, "Pis over nothing", telescope.Pis(nil, app(f, x(0))), app(f, x(0)))
	want(t, "Lams over nothing", telescope.Lams(list(), lam(nat, x(0))), lam(nat, x(0)))
	want(t, "Pis to a function type", telescope.Pis(list(nat), pi(x(0), x(1))), pi(nat, pi(x(0), x(1))))
	want(t, "great variables", telescope.Lams(list(x(70000)), x(70002)), lam(x(70000), x(70002)))
}

// P5.1
func TestArrow(t *testing.T) {
	for _, c := range []struct{ a, b, result api.Term }{
		{nat, nat, pi(nat, nat)},
		{x(0), x(0), pi(x(0), x(1))},
		{app(vec, x(2)), pi(x(1), app(x(0), x(3))), pi(app(vec, x(2)), pi(x(2), app(x(0), x(4))))},
		{x(70000), x(65534), pi(x(70000), x(65535))},
	} {
		want(t, "Arrow", telescope.Arrow(c.a, c.b), c.result)
	}
	want(t, "Arrow to a variable that cannot be shifted", telescope.Arrow(nat, x(65535)), api.Term{})
}

// P5.1
func TestOpenAndAll(t *testing.T) {
	result := app(app(eq, x(1)), x(0))
	example := pi(nat, pi(app(vec, x(0)), result))
	for _, c := range []struct {
		t      api.Term
		n      int
		ctx    []api.Term
		result api.Term
		err    api.Errno
	}{
		{example, 2, list(nat, app(vec, x(0))), result, api.OK},
		{example, 1, list(nat), pi(app(vec, x(0)), result), api.OK},
		{example, 0, nil, example, api.OK},
		{example, 3, nil, api.Term{}, api.ErrFun},
		{example, math.MaxInt, nil, api.Term{}, api.ErrFun},
		{example, -1, nil, api.Term{}, api.ErrRange},
		{nat, math.MinInt, nil, api.Term{}, api.ErrRange},
		{nat, 0, nil, nat, api.OK},
		{nat, 1, nil, api.Term{}, api.ErrFun},
		{lam(nat, nat), 1, nil, api.Term{}, api.ErrFun},
		{tm(api.Sigma, nat, nat), 1, nil, api.Term{}, api.ErrFun},
		{app(lam(prop, pi(x(0), x(1))), nat), 1, nil, api.Term{}, api.ErrFun},
		{pi(nat, tm(api.Let, prop, nat, pi(nat, nat))), 2, nil, api.Term{}, api.ErrFun},
		{pi(nat, tm(api.Let, prop, nat, pi(nat, nat))), 1, list(nat), tm(api.Let, prop, nat, pi(nat, nat)), api.OK},
		{pi(x(70000), x(70001)), 1, list(x(70000)), x(70001), api.OK},
	} {
		what := fmt.Sprintf("Open(%s, %d)", show(c.t), c.n)
		ctx, result, err := telescope.Open(c.t, c.n)
		wantErr(t, what, err, c.err)
		wantList(t, what, ctx, c.ctx)
		want(t, what, result, c.result)
	}
	for _, c := range []struct {
		t      api.Term
		ctx    []api.Term
		result api.Term
	}{
		{example, list(nat, app(vec, x(0))), result},
		{nat, nil, nat},
		{lam(nat, pi(nat, nat)), nil, lam(nat, pi(nat, nat))},
		{pi(pi(nat, prop), pi(nat, tm(api.Sigma, nat, pi(nat, nat)))), list(pi(nat, prop), nat), tm(api.Sigma, nat, pi(nat, nat))},
		{telescope.Pis(repeated(199, x(0)), x(7)), repeated(199, x(0)), x(7)},
	} {
		ctx, result := telescope.All(c.t)
		wantList(t, "the telescope of "+show(c.t), ctx, c.ctx)
		want(t, "the result of "+show(c.t), result, c.result)
	}
}

// P5.2
func TestVars(t *testing.T) {
	for _, c := range []struct {
		n, from int
		want    []api.Term
	}{
		{3, 1, list(x(3), x(2), x(1))},
		{1, 0, list(x(0))},
		{2, 70000, list(x(70001), x(70000))},
		{1, math.MaxInt, list(x(math.MaxInt))},
		{2, math.MaxInt, nil},
		{0, 0, nil},
		{-1, 5, nil},
		{math.MinInt, 0, nil},
		{3, -1, nil},
		{3, math.MinInt, nil},
		{4097, 0, nil},
		{math.MaxInt, 1, nil},
	} {
		wantList(t, fmt.Sprintf("Vars(%d, %d)", c.n, c.from), telescope.Vars(c.n, c.from), c.want)
	}
	most := telescope.Vars(4096, 5)
	if len(most) != 4096 || !term.Same(most[0], x(4100)) || !term.Same(most[4095], x(5)) {
		t.Errorf("Vars(4096, 5) returns %d variables: %s", len(most), show(most))
	}
}

// P5.2
func TestLookup(t *testing.T) {
	ctx := list(nat, app(vec, x(0)), nat, pi(x(0), app(x(3), x(1))))
	for _, c := range []struct {
		ctx   []api.Term
		index int
		want  api.Term
		err   api.Errno
	}{
		{ctx[:3], 1, app(vec, x(2)), api.OK},
		{ctx[:3], 2, nat, api.OK},
		{ctx[:3], 0, nat, api.OK},
		{ctx, 0, pi(x(1), app(x(4), x(2))), api.OK},
		{ctx, 2, app(vec, x(3)), api.OK},
		{ctx, 4, api.Term{}, api.ErrScope},
		{ctx, -1, api.Term{}, api.ErrScope},
		{ctx, math.MinInt, api.Term{}, api.ErrScope},
		{ctx, math.MaxInt, api.Term{}, api.ErrScope},
		{nil, 0, api.Term{}, api.ErrScope},
		{repeated(65538, prop), 65537, prop, api.OK},
		{append(list(prop), repeated(65536, x(0))...), 0, x(1), api.OK},
		{append(list(prop), repeated(65536, x(0))...), 65534, x(65535), api.OK},
		{append(list(prop), repeated(65536, x(0))...), 65535, api.Term{}, api.ErrScope},
		{append(list(prop, x(0)), repeated(65536, prop)...), 65536, api.Term{}, api.ErrScope},
	} {
		what := fmt.Sprintf("Lookup(%s, %d)", show(c.ctx), c.index)
		got, err := telescope.Lookup(c.ctx, c.index)
		wantErr(t, what, err, c.err)
		want(t, what, got, c.want)
	}
}

// P5.2
func TestInstantiate(t *testing.T) {
	zero, some := con("zero"), con("some")
	any2 := list(nat, nat)
	for _, c := range []struct {
		ctx  []api.Term
		t    api.Term
		args []api.Term
		want api.Term
		err  api.Errno
	}{
		{any2, app(app(eq, x(1)), x(0)), list(zero, some), app(app(eq, zero), some), api.OK},
		{any2, app(app(eq, x(2)), lam(x(1), app(x(0), x(1)))), list(x(4), x(5)), app(app(eq, x(0)), lam(x(4), app(x(0), x(6)))), api.OK},
		{nil, app(f, x(0)), nil, app(f, x(0)), api.OK},
		{list(tm(99), tm(-1)), x(1), list(zero, some), zero, api.OK},
		{any2, x(0), list(zero), api.Term{}, api.ErrMany},
		{any2, x(0), list(zero, zero, zero), api.Term{}, api.ErrMany},
		{nil, x(0), list(zero), api.Term{}, api.ErrMany},
		{any2, x(0), nil, api.Term{}, api.ErrMany},
		{any2, bushy(12, x(0)), list(app(zero, zero)), api.Term{}, api.ErrMany},
		{list(nat), bushy(12, x(0)), list(app(zero, zero)), api.Term{}, api.ErrLong},
		{list(nat), bushy(12, x(0)), list(zero), bushy(12, zero), api.OK},
		{list(nat), nested(150, x(0)), list(nested(49, zero)), nested(199, zero), api.OK},
		{list(nat), nested(150, x(0)), list(nested(50, zero)), api.Term{}, api.ErrDeep},
		{list(nat), lam(nat, x(1)), list(x(65535)), api.Term{}, api.ErrScope},
		{nil, x(65536), nil, api.Term{}, api.ErrScope},
	} {
		what := fmt.Sprintf("Instantiate(%d, %s, %s)", len(c.ctx), show(c.t), show(c.args))
		got, err := telescope.Instantiate(c.ctx, c.t, c.args)
		wantErr(t, what, err, c.err)
		want(t, what, got, c.want)
	}
}
