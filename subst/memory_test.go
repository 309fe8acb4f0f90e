package subst_test

import (
	"math"
	"testing"

	"euclid/api"
	"euclid/subst"
	"euclid/term"
)

// spoil overwrites everything in a term, also the spare capacity of its lists.
func spoil(t *api.Term) {
	for i := range t.Levels {
		for j := range t.Levels[i].Vars {
			t.Levels[i].Vars[j] = api.LevelVar{Index: 5, Plus: 77}
		}
		t.Levels[i].Const = 99
	}
	kids := t.Kids[:cap(t.Kids)]
	for i := range kids {
		spoil(&kids[i])
	}
	*t = api.Term{Kind: 55}
}

// sample has levels and occurrences of nat and of variables.
func sample() api.Term {
	deep := app(app(x(0), x(1)), app(x(2), con("f", lv(3, v(-1, 1), v(0, 0)))))
	return app(lam(sort(lv(0, v(-1, 0), v(1, 2))), deep), app(app(x(0), nat), app(x(0), nat)))
}

// P4.1, P4.2: results share no memory with the arguments or within themselves, and arguments stay as they are.
func TestMemory(t *testing.T) {
	value := func() api.Term { return app(con("v", lv(2, v(0, 1))), app(x(0), x(1))) }
	levels := func() []api.Level {
		return []api.Level{lv(0, v(2, 1)), lv(4, v(2, 0)), lv(0, v(3, 3))}
	}
	for name, call := range map[string]func(t api.Term, v api.Term, l []api.Level) api.Term{
		"Shift":    func(t, v api.Term, l []api.Level) api.Term { return first(subst.Shift(t, 3, 0)) },
		"Shift 0":  func(t, v api.Term, l []api.Level) api.Term { return first(subst.Shift(t, 0, 0)) },
		"Shift 9":  func(t, v api.Term, l []api.Level) api.Term { return first(subst.Shift(t, 1, 9)) },
		"Subst":    func(t, v api.Term, l []api.Level) api.Term { return first(subst.Subst(t, list(v, v))) },
		"Subst 0":  func(t, v api.Term, l []api.Level) api.Term { return first(subst.Subst(t, nil)) },
		"Under":    func(t, v api.Term, l []api.Level) api.Term { return first(subst.Under(t, list(v), 1)) },
		"Rename":   func(t, v api.Term, l []api.Level) api.Term { return first(subst.Rename(t, []int{1, 0, 2})) },
		"Levels":   func(t, v api.Term, l []api.Level) api.Term { return first(subst.Levels(t, l)) },
		"Assign":   func(t, v api.Term, l []api.Level) api.Term { return first(subst.Assign(t, l)) },
		"Abstract": func(t, v api.Term, l []api.Level) api.Term { return firstOf3(subst.Abstract(t, v)) },
	} {
		a, b, l := sample(), value(), levels()
		result := call(a, b, l)
		again := call(a, b, l)
		wantSame(t, name+" modifies its argument", a, sample())
		wantSame(t, name+" modifies a value", b, value())
		wantSame(t, name+" modifies levels", con("l", l...), con("l", levels()...))
		spoil(&a)
		spoil(&b)
		for i := range l {
			l[i].Vars[0].Plus = 50
		}
		wantSame(t, name+" shares memory with an argument", result, again)
		wantSame(t, name+" shares memory with an argument", result, call(sample(), value(), levels()))
		// If two parts shared memory, a change of one would change the other.
		parts := result.Kids[1].Kids
		wantSame(t, name+": the parts differ", parts[0], parts[1])
		before := parts[1]
		spoil(&parts[0])
		wantSame(t, name+" shares memory within its result", before, again.Kids[1].Kids[1])
		wantSame(t, name+" shares memory with another result", again, call(sample(), value(), levels()))
	}
}

// Functions return for arguments that they need not accept.
func TestOtherArguments(t *testing.T) {
	deep, wide := nat, api.Term{Kind: api.App}
	for range 1 << 20 {
		deep = tm(api.Fst, deep)
	}
	double := nat
	for range 60 {
		double = app(double, double)
	}
	for range 5000 {
		wide.Kids = append(wide.Kids, x(0))
	}
	odd := list(deep, double, wide, x(-1), x(math.MaxInt), x(math.MinInt), lam(nat, x(math.MaxInt)), api.Term{Kind: -4, Index: 9, Name: "", Kids: list(x(math.MinInt))},
		api.Term{Kind: 99, Levels: []api.Level{lv(-1, v(-70000, -1))}}, api.Term{Kind: api.Let}, api.Term{Kind: api.Var, Kids: list(nat, nat)},
		sort(lv(0, v(math.MinInt, 0))), sort(lv(0, v(math.MaxInt, 1))), con("f", lv(0, v(9, 0))), api.Term{Kind: api.Lam, Levels: []api.Level{lv(0)}, Kids: list(x(0))})
	numbers := []int{math.MinInt, -65536, -1, 0, 1, 65536, math.MaxInt}
	for _, a := range odd {
		for _, b := range odd {
			subst.Subst(a, list(b))
			subst.Subst(b, nil)
			subst.Subst(app(x(0), x(1)), list(a, b))
			for _, n := range numbers {
				subst.Under(a, list(b), n)
			}
			subst.Abstract(a, b)
			subst.Abstract(app(a, b), b)
		}
		for _, n := range numbers {
			for _, k := range numbers {
				subst.Shift(a, n, k)
			}
			subst.Rename(a, []int{n})
		}
		subst.Levels(a, []api.Level{lv(-1), lv(0, v(math.MinInt, 0))})
		subst.Levels(a, nil)
		subst.Assign(a, []api.Level{lv(-1), lv(0, v(math.MinInt, 0))})
	}
	if got, err := subst.Shift(nat, 0, 0); err != api.OK || !term.Same(got, nat) {
		t.Error("Shift is of no use any more")
	}
}
