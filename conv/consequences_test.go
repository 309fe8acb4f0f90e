package conv_test

import (
	"math/rand/v2"
	"testing"

	"euclid/api"
	"euclid/conv"
	"euclid/reduce"
	"euclid/sample"
	"euclid/subst"
	"euclid/term"
)

// maker makes random terms, and others that are related to them.
type maker struct{ sample.Maker }

func newMaker(seed uint64) maker {
	return maker{sample.Maker{IntN: rand.New(rand.NewPCG(10, seed)).IntN}}
}

// typeOrTerm returns a type, or something like it, or another term.
func (m maker) typeOrTerm(depth int) api.Term {
	if depth <= 0 || m.IntN(8) == 0 {
		return m.sort()
	}
	switch m.IntN(5) {
	case 0, 1:
		return tm(api.Pi, m.typeOrTerm(depth-1), m.typeOrTerm(depth-1))
	case 2:
		return tm(api.Sigma, m.typeOrTerm(depth-1), m.typeOrTerm(depth-1))
	case 3:
		return m.Term(depth)
	}
	return ap(the(m.one("(lam prop #0)", "{(const id [3]) prop}", "{apart prop}", "{plus 0}", "zeros", "{bare 1 #0}", "{bare #0 1}", "{flip plus #0}", "{twice {plus 1}}", "itself")), m.typeOrTerm(depth-1))
}

func (m maker) sort() api.Term {
	return the(m.one("prop", "prop", "(sort [0])", "(sort [0])", "(sort [1])", "(sort [u0])", "(sort [u0 + 1])", "(sort [max(u0, u1)])", "(const big [0])", "#0", "{plus 1}", "plus", "Nat.succ", "{flip plus}", "{bare 1}", "{bare 0}", "{twice Nat.succ}", "zeros"))
}

func (m maker) one(of ...string) string { return of[m.IntN(len(of))] }

// related returns a term that is convertible to another one, or not far from this.
func (m maker) related(t api.Term) api.Term {
	kids := t.Kids
	t.Kids = nil
	for _, kid := range kids {
		t.Kids = append(t.Kids, m.related(kid))
	}
	if (t.Kind == api.Sort || t.Kind == api.Prop) && m.IntN(3) == 0 {
		return the(m.one("prop", "(sort [0])", "(sort [1])", "(sort [2])", "(sort [u0 + 1])"))
	}
	shifted, err := subst.Shift(t, 1, 0)
	if err != api.OK {
		return t
	}
	switch m.IntN(30) {
	case 0, 1:
		return tm(api.Lam, m.Leaf(), ap(shifted, x(0)))
	case 2:
		return tm(api.Pair, m.Leaf(), tm(api.Fst, t), tm(api.Snd, t))
	case 3:
		return ap(tm(api.Lam, m.Leaf(), shifted), m.Leaf())
	case 4:
		return ap(the("(lam prop #0)"), t)
	case 5:
		return tm(api.Let, m.Leaf(), t, x(0))
	case 6, 7, 8:
		if next, ok, err := reduce.Step(env, t); ok && err == api.OK {
			return next
		}
	case 9:
		if m.IntN(4) == 0 {
			return m.typeOrTerm(1)
		}
	}
	if t.Kind == api.Lam || t.Kind == api.Pair {
		t.Kids[0] = m.Leaf()
	}
	return t
}

// P10.1, P10.2: for random terms, which need not have types, the results are those of the definitions.
func TestDefinitions(t *testing.T) {
	m := newMaker(1)
	counts := map[string]int{}
	for range 8000 {
		a := m.typeOrTerm(m.IntN(5))
		b := m.related(a)
		var x, y api.Term
		isLight := sample.Lightly(env, func(s *sample.Slow) { x, y = s.ShortNorm(a), s.ShortNorm(b) })
		equal, err := conv.Equal(env, a, b)
		if err == api.ErrSteps && !isLight {
			counts["heavy"]++
			continue
		}
		if !isLight {
			continue
		}
		if want := term.Same(x, y); err != api.OK || equal != want {
			t.Fatalf("Equal(%s, %s): got %v, error %d, want %v", show(a), show(b), equal, err, want)
		}
		join, ok, err := conv.Join(env, a, b)
		if err != api.OK || ok != equal || ok && !term.Same(join, x) || !ok && !term.Same(join, api.Term{}) {
			t.Fatalf("Join(%s, %s): got %s, %v, error %d, want %s", show(a), show(b), show(join), ok, err, show(x))
		}
		sub, err := conv.Sub(env, a, b)
		if want := sample.Below(x, y); err != api.OK || sub != want {
			t.Fatalf("Sub(%s, %s): got %v, error %d, want %v", show(a), show(b), sub, err, want)
		}
		switch {
		case equal && !term.Same(a, b):
			counts["equal"]++
		case !equal && sub:
			counts["sub"]++
		case !equal:
			counts["different"]++
		}
	}
	for _, what := range []string{"equal", "sub", "different", "heavy"} {
		if counts[what] < 150 {
			t.Errorf("only %d pairs: %s", counts[what], what)
		}
	}
}

// decide returns whether two terms are convertible, and whether the first one is a subtype of the second one; ok is false if that is not known.
func decide(a, b api.Term) (equal, sub, ok bool) {
	equal, errEqual := conv.Equal(env, a, b)
	sub, errSub := conv.Sub(env, a, b)
	return equal, sub, errEqual == api.OK && errSub == api.OK
}

// P10.3: convertibility is an equivalence, and being a subtype is a partial order among the classes.
func TestRelations(t *testing.T) {
	m := newMaker(2)
	chains := 0
	for range 3000 {
		a := m.typeOrTerm(m.IntN(5))
		b := m.related(a)
		c := m.related(b)
		if equal, sub, ok := decide(a, a); ok && (!equal || !sub) {
			t.Fatalf("%s is not convertible to itself, or no subtype", show(a))
		}
		ab, subAB, ok1 := decide(a, b)
		ba, subBA, ok2 := decide(b, a)
		bc, subBC, ok3 := decide(b, c)
		ac, subAC, ok4 := decide(a, c)
		if !ok1 || !ok2 || !ok3 || !ok4 {
			continue
		}
		if ab != ba || ab != (subAB && subBA) {
			t.Fatalf("%s and %s: convertible %v and %v, subtypes %v and %v", show(a), show(b), ab, ba, subAB, subBA)
		}
		if ab && bc != ac || subAB && subBC && !subAC {
			t.Fatalf("%s, %s and %s: convertible %v, %v and %v, subtypes %v, %v and %v", show(a), show(b), show(c), ab, bc, ac, subAB, subBC, subAC)
		}
		if ab && bc && !term.Same(a, b) && !term.Same(b, c) {
			chains++
		}
	}
	if chains < 300 {
		t.Errorf("only %d chains of convertible terms", chains)
	}
}

// P10.3: a term is convertible to its next step and to its eta expansions.
func TestStepsAndExpansions(t *testing.T) {
	m := newMaker(3)
	for range 3000 {
		from := m.typeOrTerm(m.IntN(5))
		shifted, err := subst.Shift(from, 1, 0)
		if err != api.OK {
			continue
		}
		others := []api.Term{tm(api.Lam, m.Leaf(), ap(shifted, x(0))), tm(api.Pair, m.Leaf(), tm(api.Fst, from), tm(api.Snd, from))}
		if next, ok, _ := reduce.Step(env, from); ok {
			others = append(others, next)
		}
		for _, other := range others {
			light := sample.Lightly(env, func(s *sample.Slow) { s.ShortNorm(from); s.ShortNorm(other) })
			equal, sub, ok := decide(from, other)
			if light && (!ok || !equal || !sub) || ok && !equal {
				t.Fatalf("%s and %s: convertible %v, subtype %v, known %v", show(from), show(other), equal, sub, ok)
			}
		}
	}
}

// Results share no memory with arguments or within themselves, and arguments stay as they are.
func TestMemory(t *testing.T) {
	m := newMaker(4)
	terms := []api.Term{the("{#0 (const ax [max(u0, ?1)]) (lam Nat #0)}"), the("{plus #0 two}"), the("{leafy (const ax [u0])}"), the("(pi (sort [u0]) (lam Nat {#1 #0}))"), the("(const high [u0])")}
	for range 300 {
		terms = append(terms, m.typeOrTerm(4))
	}
	envText := show(env[0].Rec.Type) + show(env[6].Value)
	for _, a := range terms {
		b := m.related(a)
		texts := show(a) + show(b)
		join := func() api.Term {
			result, _, _ := conv.Join(env, a, b)
			conv.Equal(env, a, b)
			conv.Sub(env, a, b)
			return result
		}
		result := join()
		want := show(result)
		if !sample.Fresh([]api.Term{result, join()}, append(sample.Terms(env), a, b)) {
			t.Errorf("Join(%s, %s) shares memory", show(a), show(b))
		}
		sample.Spoil(&result)
		if got := show(join()); got != want || show(a)+show(b) != texts {
			t.Errorf("Join(%s, %s) changed from %s to %s", show(a), show(b), want, got)
		}
	}
	if show(env[0].Rec.Type)+show(env[6].Value) != envText {
		t.Error("the environment was modified")
	}
}
