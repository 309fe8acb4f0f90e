package reduce_test

import (
	"math/rand/v2"
	"slices"
	"testing"

	"euclid/api"
	"euclid/reduce"
	"euclid/signature"
	"euclid/subst"
	"euclid/telescope"
	"euclid/term"
)

// slow reduces by the words of the chapter.
type slow struct {
	env          []api.Decl
	contractions int
	marks        int
}

// heavy ends a reduction that is not light.
type heavy struct{}

func (s *slow) count(t api.Term) api.Term {
	s.contractions++
	if s.contractions > api.MaxLight || term.Size(t) > api.MaxNodes || term.Depth(t) > api.MaxDepth {
		panic(heavy{})
	}
	return t
}

// put substitutes, or gives up.
func put(t api.Term, values ...api.Term) api.Term {
	result, err := subst.Subst(t, values)
	if err != api.OK {
		panic(heavy{})
	}
	return result
}

// constant looks a constant up; it is none if it has a wrong number of levels.
func (s *slow) constant(t api.Term, kind int) (api.Entry, bool) {
	e, err := signature.Find(s.env, t.Name)
	return e, t.Kind == api.Const && err == api.OK && e.Kind == kind && len(t.Levels) == e.Params
}

// isConstructor returns the constructor and the fields of a constructor term.
func (s *slow) isConstructor(t api.Term) (api.Entry, []api.Term, bool) {
	head, args := telescope.Spine(t)
	e, err := signature.Find(s.env, head.Name)
	domains, _ := telescope.All(e.Type)
	if head.Kind != api.Const || err != api.OK || e.Kind != api.EntryCtor || len(args) != len(domains) {
		return api.Entry{}, nil, false
	}
	return e, args[s.env[e.Decl].Fixed:], true
}

// scrutineeAt returns the number of the scrutinee of a recursor with enough arguments, or -1.
func (s *slow) scrutineeAt(head api.Term, args []api.Term) int {
	e, ok := s.constant(head, api.EntryRec)
	if !ok {
		return -1
	}
	d := s.env[e.Decl]
	domains, _ := telescope.All(d.Type)
	p, k := d.Fixed, len(d.Ctors)
	n := len(domains) - p
	if len(args) < p+k+n+2 {
		return -1
	}
	return p + k + n + 1
}

// function returns a function with enough arguments.
func (s *slow) function(head api.Term, args []api.Term) (api.Fun, bool) {
	e, ok := s.constant(head, api.EntryFun)
	if !ok || len(args) < s.env[e.Decl].Funs[e.Item].Arity {
		return api.Fun{}, false
	}
	return s.env[e.Decl].Funs[e.Item], true
}

// contraction returns the contraction of a term, if there is one without any reduction of scrutinees.
func (s *slow) contraction(t api.Term) (api.Term, bool) {
	head, args := telescope.Spine(t)
	switch {
	case head.Kind == api.Lam && len(args) > 0:
		return ap(put(head.Kids[1], args[0]), args[1:]...), true
	case head.Kind == api.Let:
		return ap(put(head.Kids[2], head.Kids[1]), args...), true
	case (head.Kind == api.Fst || head.Kind == api.Snd) && head.Kids[0].Kind == api.Pair:
		return ap(head.Kids[0].Kids[head.Kind-api.Fst+1], args...), true
	}
	if e, ok := s.constant(head, api.EntryDef); ok {
		value, err := subst.Levels(s.env[e.Decl].Value, head.Levels)
		return ap(value, args...), err == api.OK
	}
	if at := s.scrutineeAt(head, args); at >= 0 {
		e, fields, ok := s.isConstructor(args[at])
		d, _, _ := signature.Family(s.env, head.Name)
		if !ok || s.env[e.Decl].Name != d.Name {
			return api.Term{}, false
		}
		rule, err := subst.Levels(d.Rec.Rules[e.Item], head.Levels)
		return ap(ap(ap(rule, args[:d.Fixed+1+len(d.Ctors)]...), fields...), args[at+1:]...), err == api.OK
	}
	if f, ok := s.function(head, args); ok {
		body, values, ok := s.reach(f.Tree, args[:f.Arity], func(t api.Term) api.Term { return t })
		body, err := subst.Levels(body, head.Levels)
		if !ok || err != api.OK {
			return api.Term{}, false
		}
		return ap(put(body, values...), args[f.Arity:]...), true
	}
	return api.Term{}, false
}

// reach goes down a case tree with scrutinees that are seen as see returns them. It returns the leaf and the values of the term variables, the first one first; if no leaf is reached, the last value is the last scrutinee as it was seen.
func (s *slow) reach(tree api.Tree, vars []api.Term, see func(api.Term) api.Term) (api.Term, []api.Term, bool) {
	if tree.Kind == api.TreeLeaf {
		values := slices.Clone(vars)
		slices.Reverse(values)
		return tree.Body, values, true
	}
	seen := see(vars[tree.Var])
	_, fields, ok := s.isConstructor(seen)
	head, _ := telescope.Spine(seen)
	for _, b := range tree.Branches {
		if ok && b.Ctor == head.Name {
			if b.Absurd {
				break
			}
			return s.reach(b.Tree, slices.Concat(vars, fields), see)
		}
	}
	return api.Term{}, append(slices.Clone(vars), seen), false
}

func (s *slow) whnf(t api.Term) api.Term {
	head, args := telescope.Spine(t)
	_, isDefinition := s.constant(head, api.EntryDef)
	if head.Kind == api.Lam || head.Kind == api.Let || isDefinition {
		if next, ok := s.contraction(t); ok {
			return s.whnf(s.count(next))
		}
		return t
	}
	if head.Kind == api.Fst || head.Kind == api.Snd {
		t = ap(tm(head.Kind, s.whnf(head.Kids[0])), args...)
		if next, ok := s.contraction(t); ok {
			return s.whnf(s.count(next))
		}
		return t
	}
	if at := s.scrutineeAt(head, args); at >= 0 {
		args[at] = s.whnf(args[at])
		if next, ok := s.contraction(ap(head, args...)); ok {
			return s.whnf(s.count(next))
		}
	}
	if f, ok := s.function(head, args); ok {
		body, values, ok := s.reach(f.Tree, args[:f.Arity], s.whnf)
		body, err := subst.Levels(body, head.Levels)
		if ok && err == api.OK {
			return s.whnf(s.count(ap(put(body, values...), args[f.Arity:]...)))
		}
	}
	return t
}

func (s *slow) blocked(t api.Term) int {
	t = s.whnf(t)
	head, args := telescope.Spine(t)
	switch head.Kind {
	case api.Meta:
		return head.Index
	case api.Fst, api.Snd:
		return s.blocked(head.Kids[0])
	}
	if at := s.scrutineeAt(head, args); at >= 0 {
		return s.blocked(args[at])
	}
	if f, ok := s.function(head, args); ok {
		_, values, ok := s.reach(f.Tree, args[:f.Arity], s.whnf)
		if !ok {
			return s.blocked(values[len(values)-1])
		}
	}
	return -1
}

// step returns the next step of a term. A scrutinee in an argument is replaced where it is found.
func (s *slow) step(t api.Term) (api.Term, bool) {
	if next, ok := s.contraction(t); ok {
		return next, true
	}
	head, args := telescope.Spine(t)
	if head.Kind == api.Fst || head.Kind == api.Snd {
		next, ok := s.step(head.Kids[0])
		return ap(tm(head.Kind, next), args...), ok
	}
	if at := s.scrutineeAt(head, args); at >= 0 {
		next, ok := s.step(args[at])
		args[at] = next
		return ap(head, args...), ok
	}
	f, ok := s.function(head, args)
	if !ok {
		return api.Term{}, false
	}
	// Each term that may become a variable gets a mark, by which the last scrutinee is found again.
	for i := range args {
		args[i] = s.marked(args[i])
	}
	mark := 0
	s.reach(f.Tree, args[:f.Arity], func(t api.Term) api.Term {
		mark = t.Index
		return t.Kids[0]
	})
	done := false
	for i := range args {
		args[i] = s.unmarked(args[i], mark, &done)
	}
	return ap(head, args...), done
}

// markKind is a kind that no term has: that of a node with a mark and the marked term.
const markKind = 99

// marked marks a term and all fields of constructor terms in it.
func (s *slow) marked(t api.Term) api.Term {
	if e, _, ok := s.isConstructor(t); ok {
		head, args := telescope.Spine(t)
		for i := s.env[e.Decl].Fixed; i < len(args); i++ {
			args[i] = s.marked(args[i])
		}
		t = ap(head, args...)
	}
	s.marks++
	return api.Term{Kind: markKind, Index: s.marks, Kids: []api.Term{t}}
}

// unmarked removes the marks of a term; the term with one of the marks makes a step.
func (s *slow) unmarked(t api.Term, mark int, done *bool) api.Term {
	kids := slices.Clone(t.Kids)
	for i, kid := range kids {
		kids[i] = s.unmarked(kid, mark, done)
	}
	if t.Kind != markKind {
		t.Kids = kids
		return t
	}
	if t.Index == mark {
		if next, ok := s.step(kids[0]); ok {
			*done = true
			return next
		}
	}
	return kids[0]
}

// lightly calls a function of slow, and reports whether it was light.
func lightly(env []api.Decl, call func(s *slow)) (ok bool) {
	defer func() {
		if r := recover(); r != nil {
			_, isHeavy := r.(heavy)
			if !isHeavy {
				panic(r)
			}
		}
	}()
	call(&slow{env: env})
	return true
}

// maker makes random terms in the environment of the tests.
type maker struct{ *rand.Rand }

// heads are the heads of random terms, with a usual number of arguments.
var heads = []struct {
	head string
	args int
}{
	{"Nat.zero", 0}, {"Nat.zero", 0}, {"Nat.succ", 1}, {"Nat.succ", 1}, {"Nat.succ", 1}, {"two", 0}, {"plus", 2}, {"plus", 2}, {"even", 1}, {"odd", 1}, {"less", 2}, {"less", 2},
	{"(const head [1])", 2}, {"(const head [31])", 2}, {"leafy", 3}, {"grow", 1}, {"loop", 1}, {"(const id [0])", 2}, {"(const big [3])", 0}, {"(const big [43])", 0},
	{"(const Nat.rec [0])", 4}, {"(const Nat.rec [0])", 4}, {"(const Vec.nil [0])", 1}, {"Vec.cons", 4}, {"(const Vec.rec [0] [0])", 6}, {"(const Vec.rec [0] [51])", 6},
	{"thm", 0}, {"(const ax [1])", 0}, {"Nat", 0}, {"none", 1}, {"plus", 2}, {"apart", 2}, {"Nat.rec", 4}, {"(const plus [0])", 2}, {"#0", 1}, {"#1", 0}, {"?0", 0}, {"?1", 1},
}

func (m maker) term(depth int) api.Term {
	if depth <= 0 {
		return m.leaf()
	}
	below := func() api.Term { return m.term(depth - 1 - m.IntN(2)) }
	switch m.IntN(16) {
	case 0:
		return tm(api.Let, below(), below(), below())
	case 1:
		return tm(api.Fst, below())
	case 2:
		return tm(api.Snd, below())
	case 3:
		return tm(api.Pair, m.leaf(), below(), below())
	case 4:
		return tm(api.Lam, m.leaf(), below())
	case 5:
		return ap(tm(api.Lam, m.leaf(), below()), below())
	case 6:
		return ap(below(), below())
	case 7:
		return m.leaf()
	case 8:
		return tm(api.Fst, tm(api.Pair, m.leaf(), below(), below()))
	}
	h := heads[m.IntN(len(heads))]
	t := the(h.head)
	for range h.args + []int{-1, 0, 0, 0, 0, 0, 0, 1}[m.IntN(8)] {
		t = ap(t, below())
	}
	return t
}

func (m maker) leaf() api.Term {
	return the([]string{"#0", "#1", "#2", "?0", "?1", "?2", "0", "1", "two", "Nat", "prop", "Nat.succ", "plus", "(lam Nat #0)", "(lam Nat {Nat.succ #0})"}[m.IntN(15)])
}

// P8.1, P8.2: for random terms, which need not have types, the results are those of the definitions.
func TestDefinitions(t *testing.T) {
	m := maker{rand.New(rand.NewPCG(8, 1))}
	counts := map[string]int{}
	for range 15000 {
		from := m.term(1 + m.IntN(6))
		var want api.Term
		blocked, waits := 0, false
		isLight := lightly(env, func(s *slow) { want = s.whnf(from) })
		got, err := reduce.Whnf(env, from)
		if isLight && (err != api.OK || !term.Same(got, want)) || !isLight && err != api.OK && err != api.ErrSteps {
			t.Fatalf("Whnf(%s): got %s, error %d, want %s, light: %v", show(from), show(got), err, show(want), isLight)
		}
		if isLight && !term.Same(from, want) {
			counts["reduced"]++
		}
		index, waits, err := reduce.Blocked(env, from)
		if lightly(env, func(s *slow) { blocked = s.blocked(from) }) && (err != api.OK || waits != (blocked >= 0) || index != max(0, blocked)) {
			t.Fatalf("Blocked(%s): got %d, %v, error %d, want %d", show(from), index, waits, err, blocked)
		}
		if waits {
			counts["waits"]++
		}
		next, ok, err := reduce.Step(env, from)
		var wantNext api.Term
		wantOk := false
		if lightly(env, func(s *slow) { wantNext, wantOk = s.step(from) }) && (err != api.OK || ok != wantOk || ok && !term.Same(next, wantNext)) {
			t.Fatalf("Step(%s): got %s, %v, error %d, want %s, %v", show(from), show(next), ok, err, show(wantNext), wantOk)
		}
		if ok {
			counts["step"]++
		}
		if !isLight {
			counts["heavy"]++
		}
	}
	for _, what := range []string{"reduced", "waits", "step", "heavy"} {
		if counts[what] < 150 {
			t.Errorf("only %d terms: %s", counts[what], what)
		}
	}
}

// P8.2
func TestSelectByDefinition(t *testing.T) {
	m := maker{rand.New(rand.NewPCG(8, 2))}
	reached := 0
	for range 10000 {
		name := []string{"plus", "even", "odd", "less", "head", "leafy"}[m.IntN(6)]
		e, _ := signature.Find(env, name)
		f := env[e.Decl].Funs[e.Item]
		var args []api.Term
		for range f.Arity {
			args = append(args, m.term(1+m.IntN(4)))
		}
		var body api.Term
		wantOk := false
		isLight := lightly(env, func(s *slow) {
			leaf, values, ok := s.reach(f.Tree, args, s.whnf)
			if ok {
				body, wantOk = put(leaf, values...), true
			}
		})
		got, ok, err := reduce.Select(env, f.Tree, args)
		if isLight && (err != api.OK || ok != wantOk || !term.Same(got, body)) {
			t.Fatalf("Select(%s, %v): got %s, %v, error %d, want %s, %v", name, args, show(got), ok, err, show(body), wantOk)
		}
		if ok {
			reached++
		}
	}
	if reached < 1000 {
		t.Errorf("only %d leaves were reached", reached)
	}
}

// P8.3
func TestConsequences(t *testing.T) {
	m := maker{rand.New(rand.NewPCG(8, 3))}
	ends := 0
	for range 10000 {
		from := m.term(1 + m.IntN(6))
		whnf, err := reduce.Whnf(env, from)
		if err != api.OK {
			continue
		}
		if again, err := reduce.Whnf(env, whnf); err != api.OK || !term.Same(again, whnf) {
			t.Fatalf("Whnf(%s) is %s, but Whnf of that %s, error %d", show(from), show(whnf), show(again), err)
		}
		head, _ := telescope.Spine(from)
		next, ok, err := reduce.Step(env, from)
		_, isDefinition := signature.Value(env, head.Name, head.Levels)
		isProjection := (head.Kind == api.Fst || head.Kind == api.Snd) && head.Kids[0].Kind == api.Pair
		if ok && (head.Kind == api.Lam || head.Kind == api.Let || isProjection || isDefinition) {
			if other, err := reduce.Whnf(env, next); err != api.OK || !term.Same(other, whnf) {
				t.Fatalf("the contraction of %s has the weak head normal form %s, error %d, and not %s", show(from), show(other), err, show(whnf))
			}
		}
		next = from
		for steps := 0; steps < 300 && err == api.OK && ok; steps++ {
			last := next
			if next, ok, err = reduce.Step(env, next); !ok {
				next = last
			}
		}
		if ok || err != api.OK {
			continue
		}
		ends++
		head, args := telescope.Spine(whnf)
		endHead, endArgs := telescope.Spine(next)
		if head.Kind != endHead.Kind || head.Name != endHead.Name || head.Index != endHead.Index || len(args) != len(endArgs) {
			t.Fatalf("the weak head normal form of %s is %s, but the steps lead to %s", show(from), show(whnf), show(next))
		}
	}
	if ends < 5000 {
		t.Errorf("only %d terms without an endless reduction", ends)
	}
}

// P8.1, P8.2: results share no memory with arguments or within themselves, and arguments stay as they are.
func TestMemory(t *testing.T) {
	m := maker{rand.New(rand.NewPCG(8, 4))}
	before := show(env[0].Rec.Type) + show(env[6].Value)
	value := the("{#1 (const id [u0]) #2}")
	terms := []api.Term{ap(tm(api.Lam, x(0), the("{#1 #0 #0 (const id [u0])}")), value), the("{(const id [u2]) #1}"), the("{leafy (const id [u1]) (lam #0 #1) (sort [u0])}"), the("{#0 (sort [u0 + 1])}"),
		the("{(const head [1]) #4 {plus 1 (sort [u3])}}")}
	for range 200 {
		terms = append(terms, m.term(4))
	}
	for _, from := range terms {
		text := show(from)
		results := func() []api.Term {
			a, _ := reduce.Whnf(env, from)
			b, _, _ := reduce.Step(env, from)
			c, _, _ := reduce.Select(env, tree("leafy"), []api.Term{from, from, from})
			reduce.Blocked(env, from)
			return []api.Term{a, b, c}
		}
		for i, result := range results() {
			want := show(result)
			seen := map[*api.Term]bool{}
			for _, other := range append(results(), from) {
				addresses(&other, seen)
			}
			if shares(&result, seen) {
				t.Errorf("result %d of %s shares memory", i, text)
			}
			spoil(&result)
			if got := show(results()[i]); got != want || show(from) != text {
				t.Errorf("%s was modified, or result %d changed from %s to %s", text, i, want, got)
			}
		}
	}
	if show(env[0].Rec.Type)+show(env[6].Value) != before {
		t.Error("the environment was modified")
	}
}

// addresses notes where the kids of a term are.
func addresses(t *api.Term, seen map[*api.Term]bool) {
	for i := range t.Kids {
		seen[&t.Kids[i]] = true
		addresses(&t.Kids[i], seen)
	}
}

// shares reports whether a kid of a term was seen, and notes those that were not.
func shares(t *api.Term, seen map[*api.Term]bool) bool {
	for i := range t.Kids {
		kid := &t.Kids[i]
		if seen[kid] || shares(kid, seen) {
			return true
		}
		seen[kid] = true
	}
	return false
}

// spoil overwrites everything in a term.
func spoil(t *api.Term) {
	for i := range t.Levels {
		for j := range t.Levels[i].Vars {
			t.Levels[i].Vars[j] = api.LevelVar{Index: 5, Plus: 77}
		}
		t.Levels[i].Const = 99
	}
	for i := range t.Kids {
		spoil(&t.Kids[i])
	}
	*t = api.Term{Kind: 55}
}
