package reduce_test

import (
	"math/rand/v2"
	"slices"
	"testing"

	"euclid/api"
	"euclid/reduce"
	"euclid/sample"
	"euclid/signature"
	"euclid/telescope"
	"euclid/term"
)

// slow reduces by the words of the chapter.
type slow struct {
	*sample.Slow
	marks int
}

// lightly calls a function of slow, and reports whether it was light.
func lightly(env []api.Decl, call func(s *slow)) bool {
	return sample.Lightly(env, func(s *sample.Slow) { call(&slow{Slow: s}) })
}

func (s *slow) blocked(t api.Term) int {
	t = s.Whnf(t)
	head, args := telescope.Spine(t)
	switch head.Kind {
	case api.Meta:
		return head.Index
	case api.Fst, api.Snd:
		return s.blocked(head.Kids[0])
	}
	if at := s.ScrutineeAt(head, args); at >= 0 {
		return s.blocked(args[at])
	}
	if f, ok := s.Function(head); ok && len(args) >= f.Arity {
		_, values, ok := s.Reach(f.Tree, args[:f.Arity], s.Whnf)
		if !ok {
			return s.blocked(values[len(values)-1])
		}
	}
	return -1
}

// step returns the next step of a term. A scrutinee in an argument is replaced where it is found.
func (s *slow) step(t api.Term) (api.Term, bool) {
	if next, ok := s.Contraction(t); ok {
		return next, true
	}
	head, args := telescope.Spine(t)
	if head.Kind == api.Fst || head.Kind == api.Snd {
		next, ok := s.step(head.Kids[0])
		return ap(tm(head.Kind, next), args...), ok
	}
	if at := s.ScrutineeAt(head, args); at >= 0 {
		next, ok := s.step(args[at])
		args[at] = next
		return ap(head, args...), ok
	}
	f, ok := s.Function(head)
	if !ok || len(args) < f.Arity {
		return api.Term{}, false
	}
	// Each term that may become a variable gets a mark, by which the last scrutinee is found again.
	for i := range args {
		args[i] = s.marked(args[i])
	}
	mark := 0
	s.Reach(f.Tree, args[:f.Arity], func(t api.Term) api.Term {
		mark = t.Index
		return t.Kids[0]
	})
	done := false
	for i := range args {
		args[i] = s.unmarked(args[i], mark, &done)
	}
	return ap(head, args...), done
}

// markKind is a kind that no term has: that of a node with a mark and the marked term.
const markKind = 99

// marked marks a term and all fields of constructor terms in it.
func (s *slow) marked(t api.Term) api.Term {
	if e, _, ok := s.Constructor(t); ok {
		head, args := telescope.Spine(t)
		for i := s.Env[e.Decl].Fixed; i < len(args); i++ {
			args[i] = s.marked(args[i])
		}
		t = ap(head, args...)
	}
	s.marks++
	return api.Term{Kind: markKind, Index: s.marks, Kids: []api.Term{t}}
}

// unmarked removes the marks of a term; the term with one of the marks makes a step.
func (s *slow) unmarked(t api.Term, mark int, done *bool) api.Term {
	kids := slices.Clone(t.Kids)
	for i, kid := range kids {
		kids[i] = s.unmarked(kid, mark, done)
	}
	if t.Kind != markKind {
		t.Kids = kids
		return t
	}
	if t.Index == mark {
		if next, ok := s.step(kids[0]); ok {
			*done = true
			return next
		}
	}
	return kids[0]
}

func newMaker(seed uint64) sample.Maker {
	return sample.Maker{IntN: rand.New(rand.NewPCG(8, seed)).IntN}
}

// P8.1, P8.2: for random terms, which need not have types, the results are those of the definitions.
func TestDefinitions(t *testing.T) {
	m := newMaker(1)
	counts := map[string]int{}
	for range 15000 {
		from := m.Term(1 + m.IntN(6))
		var want api.Term
		blocked, waits := 0, false
		isLight := lightly(env, func(s *slow) { want = s.Whnf(from) })
		got, err := reduce.Whnf(env, from)
		if isLight && (err != api.OK || !term.Same(got, want)) || !isLight && err != api.OK && err != api.ErrSteps {
			t.Fatalf("Whnf(%s): got %s, error %d, want %s, light: %v", show(from), show(got), err, show(want), isLight)
		}
		if isLight && !term.Same(from, want) {
			counts["reduced"]++
		}
		index, waits, err := reduce.Blocked(env, from)
		if lightly(env, func(s *slow) { blocked = s.blocked(from) }) && (err != api.OK || waits != (blocked >= 0) || index != max(0, blocked)) {
			t.Fatalf("Blocked(%s): got %d, %v, error %d, want %d", show(from), index, waits, err, blocked)
		}
		if waits {
			counts["waits"]++
		}
		next, ok, err := reduce.Step(env, from)
		var wantNext api.Term
		wantOk := false
		if lightly(env, func(s *slow) { wantNext, wantOk = s.step(from) }) && (err != api.OK || ok != wantOk || ok && !term.Same(next, wantNext)) {
			t.Fatalf("Step(%s): got %s, %v, error %d, want %s, %v", show(from), show(next), ok, err, show(wantNext), wantOk)
		}
		if ok {
			counts["step"]++
		}
		if !isLight {
			counts["heavy"]++
		}
	}
	for _, what := range []string{"reduced", "waits", "step", "heavy"} {
		if counts[what] < 150 {
			t.Errorf("only %d terms: %s", counts[what], what)
		}
	}
}

// P8.2
func TestSelectByDefinition(t *testing.T) {
	m := newMaker(2)
	reached := 0
	for range 10000 {
		name := []string{"plus", "even", "odd", "less", "head", "leafy"}[m.IntN(6)]
		e, _ := signature.Find(env, name)
		f := env[e.Decl].Funs[e.Item]
		var args []api.Term
		for range f.Arity {
			args = append(args, m.Term(1+m.IntN(4)))
		}
		var body api.Term
		wantOk := false
		isLight := lightly(env, func(s *slow) {
			leaf, values, ok := s.Reach(f.Tree, args, s.Whnf)
			if ok {
				body, wantOk = sample.Put(leaf, values...), true
			}
		})
		got, ok, err := reduce.Select(env, f.Tree, args)
		if isLight && (err != api.OK || ok != wantOk || !term.Same(got, body)) {
			t.Fatalf("Select(%s, %v): got %s, %v, error %d, want %s, %v", name, args, show(got), ok, err, show(body), wantOk)
		}
		if ok {
			reached++
		}
	}
	if reached < 1000 {
		t.Errorf("only %d leaves were reached", reached)
	}
}

// P8.3
func TestConsequences(t *testing.T) {
	m := newMaker(3)
	ends := 0
	for range 10000 {
		from := m.Term(1 + m.IntN(6))
		whnf, err := reduce.Whnf(env, from)
		if err != api.OK {
			continue
		}
		if again, err := reduce.Whnf(env, whnf); err != api.OK || !term.Same(again, whnf) {
			t.Fatalf("Whnf(%s) is %s, but Whnf of that %s, error %d", show(from), show(whnf), show(again), err)
		}
		head, _ := telescope.Spine(from)
		next, ok, err := reduce.Step(env, from)
		_, isDefinition := signature.Value(env, head.Name, head.Levels)
		isProjection := (head.Kind == api.Fst || head.Kind == api.Snd) && head.Kids[0].Kind == api.Pair
		if ok && (head.Kind == api.Lam || head.Kind == api.Let || isProjection || isDefinition) {
			if other, err := reduce.Whnf(env, next); err != api.OK || !term.Same(other, whnf) {
				t.Fatalf("the contraction of %s has the weak head normal form %s, error %d, and not %s", show(from), show(other), err, show(whnf))
			}
		}
		next = from
		for steps := 0; steps < 300 && err == api.OK && ok; steps++ {
			last := next
			if next, ok, err = reduce.Step(env, next); !ok {
				next = last
			}
		}
		if ok || err != api.OK {
			continue
		}
		ends++
		head, args := telescope.Spine(whnf)
		endHead, endArgs := telescope.Spine(next)
		if head.Kind != endHead.Kind || head.Name != endHead.Name || head.Index != endHead.Index || len(args) != len(endArgs) {
			t.Fatalf("the weak head normal form of %s is %s, but the steps lead to %s", show(from), show(whnf), show(next))
		}
	}
	if ends < 5000 {
		t.Errorf("only %d terms without an endless reduction", ends)
	}
}

// P8.1, P8.2: results share no memory with arguments or within themselves, and arguments stay as they are.
func TestMemory(t *testing.T) {
	m := newMaker(4)
	before := show(env[0].Rec.Type) + show(env[6].Value)
	value := the("{#1 (const id [u0]) #2}")
	terms := []api.Term{ap(tm(api.Lam, x(0), the("{#1 #0 #0 (const id [u0])}")), value), the("{(const id [u2]) #1}"), the("{leafy (const id [u1]) (lam #0 #1) (sort [u0])}"), the("{#0 (sort [u0 + 1])}"),
		the("{(const head [1]) #4 {plus 1 (sort [u3])}}")}
	for range 200 {
		terms = append(terms, m.Term(4))
	}
	for _, from := range terms {
		text := show(from)
		results := func() []api.Term {
			a, _ := reduce.Whnf(env, from)
			b, _, _ := reduce.Step(env, from)
			c, _, _ := reduce.Select(env, tree("leafy"), []api.Term{from, from, from})
			reduce.Blocked(env, from)
			return []api.Term{a, b, c}
		}
		for i, result := range results() {
			want := show(result)
			if !sample.Fresh([]api.Term{result}, append(results(), from)) {
				t.Errorf("result %d of %s shares memory", i, text)
			}
			sample.Spoil(&result)
			if got := show(results()[i]); got != want || show(from) != text {
				t.Errorf("%s was modified, or result %d changed from %s to %s", text, i, want, got)
			}
		}
	}
	if show(env[0].Rec.Type)+show(env[6].Value) != before {
		t.Error("the environment was modified")
	}
}
