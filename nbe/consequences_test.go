package nbe_test

import (
	"math/rand/v2"
	"testing"

	"euclid/api"
	"euclid/nbe"
	"euclid/reduce"
	"euclid/sample"
	"euclid/spines"
	"euclid/subst"
	"euclid/term"
)

func newMaker(seed uint64) sample.Maker {
	return sample.Maker{IntN: rand.New(rand.NewPCG(9, seed)).IntN}
}

// normalByDefinition reports whether a term has no next step, and neither have its parts.
func normalByDefinition(t api.Term) bool {
	if _, ok, err := reduce.Step(env, t); ok || err != api.OK {
		return false
	}
	head, args := spines.Of(t)
	for _, part := range append(args, head.Kids...) {
		if !normalByDefinition(part) {
			return false
		}
	}
	return true
}

// P9.1: for random terms, which need not have types, the results are those of the definitions.
func TestDefinitions(t *testing.T) {
	m := newMaker(1)
	light, reduced, normal := 0, 0, 0
	for range 15000 {
		from := m.Term(1 + m.IntN(6))
		var want api.Term
		isLight := sample.Lightly(env, func(s *sample.Slow) { want = s.Norm(from) })
		got, err := nbe.Norm(env, from)
		switch {
		case isLight && (err != api.OK || !term.Same(got, want)):
			t.Fatalf("Norm(%s): got %s, error %d, want %s", show(from), show(got), err, show(want))
		case err == api.ErrSteps && !term.Same(got, api.Term{}), err != api.ErrSteps && err != api.OK:
			t.Fatalf("Norm(%s): got %s, error %d", show(from), show(got), err)
		case isLight && term.Same(from, want):
			normal++
		case isLight:
			reduced++
		}
		if isLight {
			light++
		}
		if want := normalByDefinition(from); nbe.Normal(env, from) != want {
			t.Fatalf("Normal(%s) is not %v", show(from), want)
		}
	}
	if light > 14800 || reduced < 5000 || normal < 2500 {
		t.Errorf("of the terms %d are light, %d are reduced, and %d are normal", light, reduced, normal)
	}
}

// P9.2
func TestShortByDefinition(t *testing.T) {
	m := newMaker(2)
	shorter := 0
	for range 10000 {
		from := etaExpanded(m, m.Term(1+m.IntN(5)))
		want := sample.Short(from)
		if got := nbe.Short(from); !term.Same(got, want) {
			t.Fatalf("Short(%s): got %s, want %s", show(from), show(got), show(want))
		}
		if term.Size(want) < term.Size(from) {
			shorter++
		}
	}
	if shorter < 2500 {
		t.Errorf("only %d terms have a shorter form", shorter)
	}
}

// etaExpanded returns a term in which some parts are eta expanded.
func etaExpanded(m sample.Maker, t api.Term) api.Term {
	kids := t.Kids
	t.Kids = nil
	for _, kid := range kids {
		t.Kids = append(t.Kids, etaExpanded(m, kid))
	}
	switch m.IntN(8) {
	case 0:
		return expandedAsFunction(m.Leaf(), t)
	case 1:
		return expandedAsPair(m.Leaf(), t)
	}
	return t
}

func expandedAsFunction(domain, t api.Term) api.Term {
	shifted, _ := subst.Shift(t, 1, 0)
	return tm(api.Lam, domain, ap(shifted, x(0)))
}

func expandedAsPair(of, t api.Term) api.Term {
	return tm(api.Pair, of, tm(api.Fst, t), tm(api.Snd, t))
}

// P9.3: normal forms are normal, and are their own normal forms.
func TestNormalForms(t *testing.T) {
	m := newMaker(3)
	for range 8000 {
		from := m.Term(1 + m.IntN(6))
		norm, err := nbe.Norm(env, from)
		if err != api.OK {
			continue
		}
		if again, err := nbe.Norm(env, norm); err != api.OK || !term.Same(again, norm) || !nbe.Normal(env, norm) {
			t.Fatalf("Norm(%s) is %s, and Norm of that %s, error %d", show(from), show(norm), show(again), err)
		}
	}
}

// P9.3: it does not matter if a contraction is made before, anywhere in the term.
func TestContractionBefore(t *testing.T) {
	m := newMaker(4)
	contracted := 0
	for range 20000 {
		from := m.Term(1 + m.IntN(6))
		before, ok := withContraction(m, from)
		if !ok {
			continue
		}
		var want api.Term
		if !sample.Lightly(env, func(s *sample.Slow) { want = s.Norm(from); s.Contractions = 0; s.Norm(before) }) {
			continue
		}
		if got, err := nbe.Norm(env, before); err != api.OK || !term.Same(got, want) {
			t.Fatalf("the normal form of %s is %s, but %s if it is contracted to %s", show(from), show(want), show(got), show(before))
		}
		contracted++
	}
	if contracted < 2000 {
		t.Errorf("only %d terms were contracted", contracted)
	}
}

// withContraction returns a term in which a part somewhere is contracted, if this is possible there.
func withContraction(m sample.Maker, t api.Term) (result api.Term, ok bool) {
	if len(t.Kids) == 0 || m.IntN(3) == 0 {
		light := sample.Lightly(env, func(s *sample.Slow) { result, ok = s.Contraction(t) })
		return result, light && ok
	}
	i := m.IntN(len(t.Kids))
	kids := append([]api.Term{}, t.Kids...)
	kids[i], ok = withContraction(m, t.Kids[i])
	t.Kids = kids
	return t, ok
}

// P9.3: a term may be normalized before other terms are substituted in it.
func TestSubstitutionAfter(t *testing.T) {
	m := newMaker(5)
	substituted := 0
	for range 8000 {
		from := m.Term(1 + m.IntN(5))
		values := []api.Term{m.Term(m.IntN(4)), m.Term(m.IntN(4))}
		norm, err := nbe.Norm(env, from)
		before, errBefore := subst.Subst(norm, values)
		after, errAfter := subst.Subst(from, values)
		if err != api.OK || errBefore != api.OK || errAfter != api.OK {
			continue
		}
		var want api.Term
		if !sample.Lightly(env, func(s *sample.Slow) { want = s.Norm(after); s.Contractions = 0; s.Norm(before) }) {
			continue
		}
		if got, err := nbe.Norm(env, before); err != api.OK || !term.Same(got, want) {
			t.Fatalf("%s has with %s, %s the normal form %s, but %s if it is normalized before", show(from), show(values[0]), show(values[1]), show(want), show(got))
		}
		substituted++
	}
	if substituted < 4000 {
		t.Errorf("only %d substitutions", substituted)
	}
}

// P9.3: short forms are their own short forms, and are those of eta expansions.
func TestShortForms(t *testing.T) {
	m := newMaker(6)
	for range 10000 {
		from := m.Term(1 + m.IntN(5))
		short := nbe.Short(from)
		for what, other := range map[string]api.Term{
			"its short form":      short,
			"its eta expansion":   expandedAsFunction(m.Leaf(), from),
			"the expanded pair":   expandedAsPair(m.Leaf(), from),
			"an expanded pair":    expandedAsPair(m.Leaf(), expandedAsFunction(m.Leaf(), from)),
			"a function of pairs": expandedAsFunction(m.Leaf(), expandedAsPair(m.Leaf(), from)),
		} {
			if got := nbe.Short(other); !term.Same(got, short) {
				t.Fatalf("Short(%s) is %s, but of %s, %s, it is %s", show(from), show(short), what, show(other), show(got))
			}
		}
	}
}

// Results share no memory with arguments or within themselves, and arguments stay as they are.
func TestMemory(t *testing.T) {
	m := newMaker(7)
	before := show(env[0].Rec.Type) + show(env[6].Value)
	terms := []api.Term{the("{(lam #0 {#1 #0 #0 #0}) (const id [u0])}"), the("{plus two #1}"), the("(const big [max(u0, ?1)])"), the("{(lam Nat {#0 #0}) {#0 (sort [max(u0, u1)])}}"), the("{leafy (const ax [u1]) (sort [u0]) 2}"),
		the("(pair prop (fst (const ax [u1])) (snd (const ax [u1])))"), the("(lam Nat {#1 (const ax [u1]) #0})"), the("(let #0 {#1 (sort [u0])} (pair #0 #0 #0))")}
	for range 300 {
		terms = append(terms, m.Term(4))
	}
	for _, from := range terms {
		text := show(from)
		results := func() []api.Term {
			norm, _ := nbe.Norm(env, from)
			nbe.Normal(env, from)
			return []api.Term{norm, nbe.Short(from)}
		}
		for i, result := range results() {
			want := show(result)
			if !sample.Fresh([]api.Term{result}, append(results(), append(sample.Terms(env), from)...)) {
				t.Errorf("result %d of %s shares memory", i, text)
			}
			sample.Spoil(&result)
			if got := show(results()[i]); got != want || show(from) != text {
				t.Errorf("%s was modified, or result %d changed from %s to %s", text, i, want, got)
			}
		}
	}
	if show(env[0].Rec.Type)+show(env[6].Value) != before {
		t.Error("the environment was modified")
	}
}
