package level_test

import (
	"math/rand/v2"
	"slices"
	"testing"

	"euclid/api"
	"euclid/level"
)

// randomLevel returns a valid level of parameters 0 to 2 and, if metas is set, of metavariables 0 to 2.
func randomLevel(r *rand.Rand, metas bool) api.Level {
	l, _ := level.Of(r.IntN(5))
	for range r.IntN(4) {
		index := r.IntN(3)
		if metas && r.IntN(2) == 0 {
			index = -1 - index
		}
		x, _ := level.Var(index, r.IntN(4))
		l, _ = level.Max(l, x)
	}
	return l
}

// value returns the value of a level for values of its parameters and metavariables 0 to 2.
func value(l api.Level, params, metas []int) int {
	n := l.Const
	for _, x := range l.Vars {
		if x.Index < 0 {
			n = max(n, metas[-1-x.Index]+x.Plus)
		} else {
			n = max(n, params[x.Index]+x.Plus)
		}
	}
	return n
}

// samples calls f with values that tell levels with small numbers apart.
func samples(f func(params, metas []int)) {
	numbers := []int{0, 1, 2, 9}
	for n := range 4096 {
		x := make([]int, 6)
		for i := range x {
			x[i] = numbers[n&3]
			n >>= 2
		}
		f(x[:3], x[3:])
	}
}

// P1.3
func TestValues(t *testing.T) {
	r := rand.New(rand.NewPCG(1, 1))
	for range 200 {
		a, b := randomLevel(r, true), randomLevel(r, true)
		by := []api.Level{randomLevel(r, true), randomLevel(r, true), randomLevel(r, true)}
		n := r.IntN(5)
		plus, e1 := level.Plus(a, n)
		most, e2 := level.Max(a, b)
		subst, e3 := level.Subst(a, by)
		assign, e4 := level.Assign(a, by)
		if e1+e2+e3+e4 != api.OK {
			t.Fatalf("%v, %v: errors %d %d %d %d", a, b, e1, e2, e3, e4)
		}
		for _, l := range []api.Level{a, plus, most, subst, assign} {
			if !level.Valid(l) {
				t.Fatalf("%v is not valid", l)
			}
		}
		leq := true
		samples(func(params, metas []int) {
			x, y := value(a, params, metas), value(b, params, metas)
			leq = leq && x <= y
			values := []int{value(by[0], params, metas), value(by[1], params, metas), value(by[2], params, metas)}
			if value(plus, params, metas) != x+n || value(most, params, metas) != max(x, y) ||
				value(subst, params, metas) != value(a, values, metas) || value(assign, params, metas) != value(a, params, values) {
				t.Errorf("%v, %v, %v, %d: wrong values for %v, %v", a, b, by, n, params, metas)
			}
		})
		if level.Leq(a, b) != leq {
			t.Errorf("%v <= %v is not %v", a, b, leq)
		}
		if level.Leq(a, b) && level.Leq(b, a) != level.Same(a, b) {
			t.Errorf("%v and %v are each at most the other one", a, b)
		}
	}
}

// P1.3
func TestEvalIsTheValue(t *testing.T) {
	r := rand.New(rand.NewPCG(2, 1))
	for range 200 {
		l := randomLevel(r, false)
		params := []int{r.IntN(9), r.IntN(9), r.IntN(9)}
		if got, err := level.Eval(l, params); err != api.OK || got != value(l, params, nil) {
			t.Errorf("Eval(%v, %v): got %d, error %d", l, params, got, err)
		}
	}
}

// P1.3
func TestParseOfText(t *testing.T) {
	r := rand.New(rand.NewPCG(3, 1))
	for range 500 {
		l := randomLevel(r, true)
		s, err := level.Text(l)
		if got := parse(t, s); err != api.OK || !level.Same(got, l) {
			t.Errorf("Parse of %q is %v, want %v", s, got, l)
		}
	}
}

// The rule of memory: arguments stay as they are, and results share nothing with them.
func TestMemory(t *testing.T) {
	fresh := func() api.Level { return lv(3, v(-2, 1), v(0, 1)) }
	spare := append(make([]api.LevelVar, 0, 9), fresh().Vars...)
	l := api.Level{Const: 3, Vars: spare}
	plus, _ := level.Plus(l, 0)
	most, _ := level.Max(l, lv(0))
	same, _ := level.Max(l, l)
	subst, _ := level.Subst(lv(0, v(0, 0)), []api.Level{l})
	assign, _ := level.Assign(l, nil)
	for _, x := range []api.Level{plus, most, same, subst, assign} {
		if !level.Same(x, fresh()) {
			t.Errorf("got %v", x)
		}
		x.Vars[0].Plus = 77
		_ = append(x.Vars, v(7, 77))
		if !level.Same(l, fresh()) || !slices.Equal(spare[:9][2:], make([]api.LevelVar, 7)) {
			t.Fatal("a result shares memory with an argument")
		}
	}
}
