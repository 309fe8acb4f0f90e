package universe_test

import (
	"math/rand/v2"
	"testing"

	"euclid/api"
	"euclid/level"
	"euclid/universe"
)

// randomLevel returns a level of up to most parts: constants and offsets up to 3, and parameters and metavariables less than the given numbers.
func randomLevel(r *rand.Rand, params, metas, most int) api.Level {
	l := api.Level{}
	for range 1 + r.IntN(most) {
		var part api.Level
		switch n := r.IntN(params + metas + 1); {
		case n < params:
			part, _ = level.Var(n, r.IntN(4))
		case n < params+metas:
			part, _ = level.Var(params-1-n, r.IntN(4))
		default:
			part, _ = level.Of(r.IntN(4))
		}
		l, _ = level.Max(l, part)
	}
	return l
}

func randomBounds(r *rand.Rand, count, params, metas, low, high int) []api.Bound {
	var all []api.Bound
	for range count {
		all = append(all, api.Bound{Low: randomLevel(r, params, metas, low), High: randomLevel(r, params, metas, high)})
	}
	return all
}

// literal finds the solution word by word as the chapter defines it.
func literal(metas int, bounds []api.Bound) ([]api.Level, int, api.Errno) {
	values := make([]api.Level, metas)
	for changed := true; changed; {
		changed = false
		for i, b := range bounds {
			raised, ok := literalVisit(values, b)
			if !ok {
				return nil, i, api.ErrLevel
			}
			changed = changed || raised
		}
	}
	return values, 0, api.OK
}

// literalVisit reports whether a value was raised, and whether there was no error.
func literalVisit(values []api.Level, b api.Bound) (bool, bool) {
	low, err := level.Assign(b.Low, values)
	if err != api.OK {
		return false, false
	}
	var parts []api.Level
	if low.Const > 0 || len(low.Vars) == 0 {
		parts = append(parts, api.Level{Const: low.Const})
	}
	for _, v := range low.Vars {
		parts = append(parts, api.Level{Vars: []api.LevelVar{v}})
	}
	raised := false
	for _, part := range parts {
		high, err := level.Assign(b.High, values)
		if err != api.OK {
			return false, false
		}
		if level.Leq(part, high) {
			continue
		}
		metas := level.Metas(b.High)
		if len(metas) == 0 {
			return false, false
		}
		k := 0
		for _, v := range b.High.Vars {
			if v.Index == -1-metas[0] {
				k = v.Plus
			}
		}
		part.Const = max(0, part.Const-k)
		if len(part.Vars) > 0 {
			part.Vars[0].Plus = max(0, part.Vars[0].Plus-k)
		}
		values[metas[0]], _ = level.Max(values[metas[0]], part)
		raised = true
	}
	return raised, true
}

// P2.1
func TestSolveIsLiteral(t *testing.T) {
	r := rand.New(rand.NewPCG(4, 1))
	solved := 0
	for range 5000 {
		all := randomBounds(r, 1+r.IntN(6), 2, 4, 2, 2)
		want, wantIndex, wantErr := literal(4, all)
		got, index, err := universe.Solve(4, all)
		if err != wantErr || index != wantIndex || !sameLevels(got, want) {
			t.Fatalf("Solve(4, %v): got %v, %d, error %d, want %v, %d, error %d", all, got, index, err, want, wantIndex, wantErr)
		}
		if err != api.OK {
			continue
		}
		solved++
		if ok, err := universe.Holds(got, all); !ok || err != api.OK {
			t.Fatalf("the bounds %v do not hold for their solution %v", all, got)
		}
	}
	if solved < 500 {
		t.Errorf("only %d systems have a solution", solved)
	}
}

// candidates returns the levels of one parameter with numbers up to 6.
func candidates() []api.Level {
	var all []api.Level
	for c := range 7 {
		all = append(all, api.Level{Const: c})
		for plus := range 7 {
			l := api.Level{Const: c, Vars: []api.LevelVar{{Index: 0, Plus: plus}}}
			if level.Valid(l) {
				all = append(all, l)
			}
		}
	}
	return all
}

// P2.3
func TestLeastSolution(t *testing.T) {
	r := rand.New(rand.NewPCG(5, 1))
	levels := candidates()
	compared, refused := 0, 0
	for range 300 {
		all := randomBounds(r, 1+r.IntN(4), 1, 2, 2, 1)
		got, index, err := universe.Solve(2, all)
		if err != api.OK && len(level.Metas(all[index].High)) > 0 {
			continue
		}
		if err != api.OK {
			refused++
		}
		for _, a := range levels {
			for _, b := range levels {
				if ok, _ := universe.Holds([]api.Level{a, b}, all); !ok {
					continue
				}
				if err != api.OK {
					t.Fatalf("%v has the solution %v, %v", all, a, b)
				}
				compared++
				if !level.Leq(got[0], a) || !level.Leq(got[1], b) {
					t.Fatalf("%v: %v is not at most %v, %v", all, got, a, b)
				}
			}
		}
	}
	if compared == 0 || refused == 0 {
		t.Errorf("%d solutions are compared, %d systems refused", compared, refused)
	}
}

// holdsFor reports whether a bound without metavariables holds for values of the parameters.
func holdsFor(b api.Bound, params []int) bool {
	low, _ := level.Eval(b.Low, params)
	high, _ := level.Eval(b.High, params)
	return low <= high
}

// refuted looks for values up to 12 for which all bounds hold, but b does not.
func refuted(from []api.Bound, b api.Bound) bool {
	for n := range 13 * 13 * 13 {
		params := []int{n % 13, n / 13 % 13, n / 169}
		if holdsFor(b, params) {
			continue
		}
		all := true
		for _, x := range from {
			all = all && holdsFor(x, params)
		}
		if all {
			return true
		}
	}
	return false
}

// P2.3
func TestEntailsUnlessRefuted(t *testing.T) {
	r := rand.New(rand.NewPCG(6, 1))
	var count [2]int
	for range 1500 {
		from := randomBounds(r, r.IntN(5), 3, 0, 2, 1)
		b := randomBounds(r, 1, 3, 0, 2, 2)[0]
		for i := range from {
			if len(from[i].High.Vars) > 0 {
				from[i].High.Const = 0
			}
		}
		got, err := universe.Entails(from, b)
		if err != api.OK {
			t.Fatalf("Entails(%v, %v): error %d", from, b, err)
		}
		if got == refuted(from, b) {
			t.Fatalf("Entails(%v, %v) is %v", from, b, got)
		}
		if got {
			count[1]++
		} else {
			count[0]++
		}
	}
	if count[0] < 100 || count[1] < 100 {
		t.Errorf("%d follow, %d do not", count[1], count[0])
	}
}

// A long chain of bounds against their order, and a cycle of them, need many passes.
func TestManyPasses(t *testing.T) {
	var chain []api.Bound
	for i := api.MaxMetas - 1; i > 0; i-- {
		low, _ := level.Var(-i, 0)
		high, _ := level.Var(-1-i, 0)
		chain = append(chain, api.Bound{Low: low, High: high})
	}
	chain = append(chain, bounds(t, "u0 <= ?0")...)
	values, _, err := universe.Solve(api.MaxMetas, chain)
	if err != api.OK || !level.Same(values[api.MaxMetas-1], lv(t, "u0")) {
		t.Fatalf("a chain: error %d", err)
	}
	last, _ := level.Var(-api.MaxMetas, 1)
	cycle := append(chain, api.Bound{Low: last, High: lv(t, "?0")})
	if _, index, err := universe.Solve(api.MaxMetas, cycle); err != api.ErrLevel || index != len(cycle)-1 {
		t.Errorf("a cycle: %d, error %d", index, err)
	}
}

// The rule of memory: arguments stay as they are, and values share nothing.
func TestMemory(t *testing.T) {
	all := bounds(t, "max(2, u0) <= ?0", "?0 <= ?1", "?1 <= ?2")
	values, _, _ := universe.Solve(3, all)
	for i := range values {
		values[i].Vars[0].Plus = 50 + i
	}
	if values[0].Vars[0].Plus != 50 || values[1].Vars[0].Plus != 51 || !level.Same(all[0].Low, lv(t, "max(2, u0)")) {
		t.Error("values share memory")
	}
}
