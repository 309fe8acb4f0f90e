package subst_test

import (
	"fmt"
	"math/rand/v2"
	"testing"

	"euclid/api"
	"euclid/level"
	"euclid/subst"
	"euclid/term"
)

// maker makes random terms with free variables less than vars, and with great ones if great is set.
type maker struct {
	*rand.Rand
	vars  int
	great bool
}

func (m maker) level() api.Level {
	l := lv(m.IntN(4))
	for range m.IntN(3) {
		more, _ := level.Var(m.IntN(6)-3, m.IntN(3))
		l, _ = level.Max(l, more)
	}
	return l
}

func (m maker) leaf(binders int) api.Term {
	switch k := m.IntN(12); {
	case k < 4 && binders > 0:
		return x(m.IntN(binders))
	case k < 9 && m.great && m.IntN(3) == 0:
		return x(65528 + m.IntN(8) + binders)
	case k < 9 && m.vars > 0:
		return x(m.IntN(m.vars) + binders)
	case k == 9:
		return sort(m.level())
	case k == 10:
		return con([]string{"a", "b.c"}[m.IntN(2)], m.level())
	case k == 11:
		return meta(m.IntN(3))
	}
	return nat
}

func (m maker) term(depth, binders int) api.Term {
	if depth <= 1 || m.IntN(6) == 0 {
		return m.leaf(binders)
	}
	kind := api.App + m.IntN(api.Let-api.App+1)
	kids := 2
	switch kind {
	case api.Pair, api.Let:
		kids = 3
	case api.Fst, api.Snd:
		kids = 1
	}
	t := api.Term{Kind: kind}
	for i := range kids {
		below := binders
		if binds(kind, i) {
			below++
		}
		t.Kids = append(t.Kids, m.term(depth-1, below))
	}
	return t
}

func (m maker) values() []api.Term {
	var values []api.Term
	for range m.IntN(4) {
		values = append(values, m.term(1+m.IntN(3), 0))
	}
	return values
}

// must returns a result that has to be there.
func must(t *testing.T, got api.Term, err api.Errno) api.Term {
	t.Helper()
	if err != api.OK {
		t.Fatalf("error %d", err)
	}
	return got
}

func wantSame(t *testing.T, what string, a, b api.Term) {
	t.Helper()
	if !term.Same(a, b) {
		t.Fatalf("%s: %s is not %s", what, show(a), show(b))
	}
}

// P4.1, P4.2: for random terms the results are those of the definitions.
func TestDefinitions(t *testing.T) {
	r := rand.New(rand.NewPCG(4, 1))
	counts := map[string]int{}
	for range 6000 {
		m := maker{r, r.IntN(5), r.IntN(3) == 0}
		a, b := m.term(1+m.IntN(6), 0), m.term(1+m.IntN(2), 0)
		by, from := m.IntN(9)-4, m.IntN(5)-m.IntN(2)
		if m.great && m.IntN(2) == 0 {
			by = []int{-65536, -65535, -65531, 65536, 65535, 65531, 65537}[m.IntN(7)]
		}
		got, err := subst.Shift(a, by, from)
		result, wantErr := wantShift(a, by, from)
		counts[fmt.Sprint("Shift ", err)]++
		want(t, fmt.Sprintf("Shift(%s, %d, %d)", show(a), by, from), got, err, result, wantErr)

		values, depth := m.values(), m.IntN(5)-m.IntN(2)
		if m.great && m.IntN(4) == 0 {
			depth = 65528 + m.IntN(8)
		}
		got, err = subst.Under(a, values, depth)
		result, wantErr = wantUnder(a, values, depth)
		counts[fmt.Sprint("Under ", err)]++
		want(t, fmt.Sprintf("Under(%s, %v, %d)", show(a), values, depth), got, err, result, wantErr)

		got, err = subst.Subst(a, values)
		result, wantErr = wantUnder(a, values, 0)
		want(t, fmt.Sprintf("Subst(%s, %v)", show(a), values), got, err, result, wantErr)

		var to []int
		for range m.vars + m.IntN(3) {
			to = append(to, m.IntN(7)-m.IntN(30)/29)
		}
		if m.great && len(to) > 0 {
			to[m.IntN(len(to))] = 65530 + m.IntN(8)
		}
		got, err = subst.Rename(a, to)
		result, wantErr = wantRename(a, to)
		counts[fmt.Sprint("Rename ", err)]++
		want(t, fmt.Sprintf("Rename(%s, %v)", show(a), to), got, err, result, wantErr)

		got, found, err := subst.Abstract(a, b)
		result, wantFound, wantErr := wantAbstract(a, b)
		counts[fmt.Sprint("Abstract ", err)]++
		if found > 0 {
			counts["Abstract found"]++
		}
		want(t, fmt.Sprintf("Abstract(%s, %s)", show(a), show(b)), got, err, result, wantErr)
		if found != wantFound {
			t.Errorf("Abstract(%s, %s): %d occurrences, want %d", show(a), show(b), found, wantFound)
		}
	}
	for _, what := range []string{"Shift 0", "Shift 2", "Shift 24", "Under 0", "Under 2", "Under 24", "Rename 0", "Rename 24", "Abstract 0", "Abstract 24", "Abstract found"} {
		if counts[what] < 100 {
			t.Errorf("%s came up %d times only", what, counts[what])
		}
	}
}

// P4.1: limits of size and depth.
func TestLimits(t *testing.T) {
	r := rand.New(rand.NewPCG(4, 2))
	counts := map[api.Errno]int{}
	for range 400 {
		m := maker{r, 3, r.IntN(8) == 0}
		a := nested(90+m.IntN(20), m.term(2+m.IntN(6), 0))
		values := list(nested(85+m.IntN(20), m.term(2+m.IntN(6), 0)), bushy(1+m.IntN(12), m.term(1+m.IntN(2), 0)), m.term(4, 0))
		got, err := subst.Subst(a, values)
		result, wantErr := wantUnder(a, values, 0)
		counts[err]++
		want(t, fmt.Sprintf("Subst(%s, %.200s)", show(a), fmt.Sprint(values)), got, err, result, wantErr)
	}
	for _, err := range []api.Errno{api.OK, api.ErrLong, api.ErrScope, api.ErrDeep} {
		if counts[err] < 10 {
			t.Errorf("error %d came up %d times only", err, counts[err])
		}
	}
}

// changed applies a function to all levels, in preorder; it returns the first error.
func changed(t api.Term, change func(api.Level) (api.Level, api.Errno)) (api.Term, api.Errno) {
	result := api.Term{Kind: t.Kind, Index: t.Index, Name: t.Name}
	for _, l := range t.Levels {
		c, err := change(l)
		if err != api.OK {
			return api.Term{}, err
		}
		result.Levels = append(result.Levels, c)
	}
	for _, kid := range t.Kids {
		k, err := changed(kid, change)
		if err != api.OK {
			return api.Term{}, err
		}
		result.Kids = append(result.Kids, k)
	}
	return result, api.OK
}

// P4.2
func TestLevelDefinitions(t *testing.T) {
	r := rand.New(rand.NewPCG(4, 3))
	counts := map[api.Errno]int{}
	for range 5000 {
		m := maker{r, 2, false}
		a := m.term(1+m.IntN(6), 0)
		var levels []api.Level
		for range m.IntN(5) {
			l := m.level()
			if m.IntN(12) == 0 {
				l = lv(99)
			}
			levels = append(levels, l)
		}
		got, err := subst.Levels(a, levels)
		result, wantErr := changed(a, func(l api.Level) (api.Level, api.Errno) { return level.Subst(l, levels) })
		counts[err]++
		want(t, fmt.Sprintf("Levels(%s, %v)", show(a), levels), got, err, result, wantErr)
		got, err = subst.Assign(a, levels)
		result, wantErr = changed(a, func(l api.Level) (api.Level, api.Errno) { return level.Assign(l, levels) })
		want(t, fmt.Sprintf("Assign(%s, %v)", show(a), levels), got, err, result, wantErr)
	}
	for _, err := range []api.Errno{api.OK, api.ErrScope, api.ErrLevel} {
		if counts[err] < 10 {
			t.Errorf("error %d came up %d times only", err, counts[err])
		}
	}
}

// P4.3
func TestShiftConsequences(t *testing.T) {
	r := rand.New(rand.NewPCG(4, 4))
	for range 5000 {
		m := maker{r, r.IntN(5), false}
		a := m.term(1+m.IntN(6), 0)
		n, k, from := m.IntN(6), m.IntN(6), m.IntN(4)
		once, err := subst.Shift(a, n, from)
		once = must(t, once, err)
		twice, err := subst.Shift(once, k, from)
		twice = must(t, twice, err)
		sum, err := subst.Shift(a, n+k, from)
		wantSame(t, "shifting by n and by m", twice, must(t, sum, err))
		back, err := subst.Shift(once, -n, from)
		wantSame(t, "shifting back", must(t, back, err), a)

		values := m.values()
		shifted, err := subst.Shift(a, len(values), 0)
		same, err2 := subst.Subst(must(t, shifted, err), values)
		wantSame(t, "the substitution in a term that was shifted", must(t, same, err2), a)

		var to []int
		for i := range m.vars {
			if i >= from {
				i += n
			}
			to = append(to, i)
		}
		renamed, err := subst.Rename(a, to)
		wantSame(t, "Rename with the numbers that Shift adds", must(t, renamed, err), once)
	}
}

// P4.3
func TestSubstConsequences(t *testing.T) {
	r := rand.New(rand.NewPCG(4, 5))
	for range 5000 {
		m := maker{r, r.IntN(6), false}
		a, values := m.term(1+m.IntN(6), 0), m.values()
		atOnce, err := subst.Subst(a, values)
		atOnce = must(t, atOnce, err)

		// Value i is put in the place of variable 0, and must be shifted over the variables whose values come later.
		one := a
		for i, value := range values {
			shifted, err := subst.Shift(value, len(values)-1-i, 0)
			one, err = subst.Subst(one, list(must(t, shifted, err)))
			one = must(t, one, err)
		}
		wantSame(t, "one value after another", one, atOnce)

		// From the last value on, Under shifts what has to be shifted.
		one = a
		for i := len(values) - 1; i >= 0; i-- {
			one, err = subst.Under(one, values[i:i+1], i)
			one = must(t, one, err)
		}
		wantSame(t, "one value after another, from the last one on", one, atOnce)
	}
}

// P4.3
func TestAbstractConsequences(t *testing.T) {
	r := rand.New(rand.NewPCG(4, 6))
	total := 0
	for range 5000 {
		m := maker{r, 1 + r.IntN(3), false}
		a, part := m.term(1+m.IntN(6), 0), m.term(1+m.IntN(2), 0)
		abstract, found, err := subst.Abstract(a, part)
		back, err2 := subst.Subst(must(t, abstract, err), list(part))
		wantSame(t, "substituting the part", must(t, back, err2), a)
		if (found > 0) != term.Occurs(abstract, 0) {
			t.Fatalf("%d occurrences of %s in %s", found, show(part), show(a))
		}
		total += found
	}
	if total < 1000 {
		t.Errorf("only %d occurrences", total)
	}
}

// P4.1, P4.2: the results are accepted again.
func TestScopes(t *testing.T) {
	r := rand.New(rand.NewPCG(4, 7))
	for range 5000 {
		m := maker{r, 3, false}
		a, part, values := m.term(1+m.IntN(6), 0), m.term(1, 0), m.values()
		for _, c := range []struct {
			t    api.Term
			vars int
		}{
			{first(subst.Shift(a, 2, 1)), 5}, {first(subst.Subst(a, values)), 3}, {first(subst.Under(a, values, 2)), 5},
			{first(subst.Rename(a, []int{3, 0, 3})), 4}, {first(subst.Levels(a, []api.Level{lv(1), lv(2), lv(3)})), 3},
			{firstOf3(subst.Abstract(a, part)), 4},
		} {
			if err := term.Check(c.t, c.vars, 8, 3, 3); err != api.OK {
				t.Fatalf("Check refuses a result for %s: %s, error %d", show(a), show(c.t), err)
			}
		}
	}
}

func first(t api.Term, _ api.Errno) api.Term { return t }

func firstOf3(t api.Term, _ int, _ api.Errno) api.Term { return t }
